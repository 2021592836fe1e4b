/- TEXTS JOINED: PoCodeD, RdIn, MxTurn, TuLm, MxMath, MxRd, MxOwn, TuL, MxStep, MxRCheck, MxRPick, MxWi, MxRmu, MxNf, CrMath, CrAwM, CrLawM, CrRef, CrCode. -/
import Derived.Test.YtddnfhfangfgeaaGreatTome2
import Derived.Test.YtddnfhfangfgeaaGreatTome1
import Derived.Deep.RegionWith
import Derived.Laws.CopyOwn
import Derived.Deep.AppendLies
import Derived.Laws.AppendOwnNone
import Derived.Deep.RegionHeld3
import Derived.BigQuiet
import Derived.Deep.OwnRows
import Derived.Deep.CutRange
import Derived.WalkMore
namespace Go.Proofs.YtddnfhfangfgeaaGreat.Gf
set_option linter.unusedVariables false
set_option linter.unusedSimpArgs false
open Go.RowKit
theorem norm_upto_self (p : List UInt8) : upto (co p) (norm p).length = norm p := co_ext (upto_length _ _) fun i hi => by
  rw [upto_length] at hi; rw [co_norm]; exact co_map_range _ hi
set_option maxRecDepth 100000 in
set_option maxHeartbeats 1000000 in
theorem pdivide_less {b : Nat} {va vq : Value} {p q : List UInt8} {w : World} (hF : FieldAt w b) (hp : Rd w va p) (hq : Rd w vq q) (hl : p.length ≤ 400000) (hl2 : q.length ≤ 400000) (h0 : 0 < (norm q).length) (h1 : (norm p).length < (norm q).length) :
    Calls Tryz.prog 220 #[.pointer (some ⟨b, 0, none⟩), va, vq] w (MakesDivF w p q) := by
  have hdq := norm_length_le q
  have hdp := norm_length_le p
  have hpf : Fin0 (co p) (norm p).length := by rw [norm, mk_length]; exact deg_fin (co_fin p)
  have D0 : DivInv (co p) (co q) (fun _ => 0) (co p) (norm p).length (norm q).length 0 := DivInv.start hpf _ (by omega)
  have HD : Hid (IsDiv p q (mk (fun _ => 0) (norm p).length) (mk (co p) (norm p).length)) := div_done D0 rfl h0 hdp hpf
  have HN2 : Hid (mk (co p) (norm p).length = norm p) := by show _ = _; rw [← norm_of hpf (fun i => by rw [co_norm]), norm_norm]
  have HN1 : Hid (mk (fun _ => 0) (norm p).length = []) := by
    show _ = _
    rw [mk_same (n := (norm p).length) (m := 0) (f := fun _ => 0) (g := fun _ => 0) (fun _ _ => rfl) (fun _ _ => rfl) (fun _ => rfl)]; rfl
  have HU : Hid _ := norm_upto_self p
  clear D0 hpf
  obtain ⟨ao', c', rfl⟩ := hq.form
  have hm0 : (((norm q).length : Int) == 0) = false := by rw [beq_eq_false_iff_ne]; omega
  go_enter Tryz.func220, Tryz.ntmps220
  go_wp2_with fail
  refine (top_any hq (by omega)).mono ?_
  rintro e w ⟨rfl, rfl⟩
  go_wp2_with fail
  refine (pnorm_own hp (by omega)).mono ?_
  rintro e w1 ⟨rfl, hR, hB⟩
  have hRd := hR.rd
  rw [HU.out] at hRd
  clear hR
  go_wp2
  go_ret3
  refine ⟨_, _, _, _, rfl, HD.out, ?_, ?_, hB, far_none, far_some (Nat.le_refl _)⟩
  · rw [HN1.out]; exact rd_nil_any
  · rw [HN2.out]; exact hRd
theorem rk_all (v : Value) (fr : Nat → UInt8) (q : List UInt8) (c : UInt8) (i m : Nat) (hq : Fin0 (co q) m) : addAll fr i [(v, mulBy q c)] = rk fr (co q) c i m := by
  funext t
  show fr t ^^^ (if i ≤ t then co (mulBy q c) (t - i) else 0) = _
  unfold rk
  rw [co_mulBy, mu_comm]
  by_cases h : i ≤ t
  · rw [if_pos h]
    by_cases h2 : t < i + m
    · rw [if_pos ⟨h, h2⟩]
    · rw [if_neg (by omega), hq (t - i) (by omega), mu_zero]
  · rw [if_neg h, if_neg (by omega)]
theorem iv_ne {a : UInt8} (h : a ≠ 0) : iv a ≠ 0 := fun e => by
  have := mu_iv h
  rw [e, mu_zero] at this
  cases this
/-- what is told apart of the tops while a division goes on -/
def Tops (fs fr : Nat → UInt8) (L n i : Nat) : Prop := (i = 0 → fr (n - 1) ≠ 0) ∧ (0 < i → fs (L - 1) ≠ 0)
theorem Tops.step {fs fs' fr fr' : Nat → UInt8} {L n m i : Nat} {c d : UInt8} (h : Tops fs fr L n i) (hm : 0 < m) (hL : L = n - (m - 1)) (hi : i < L) (hd : d ≠ 0) (hc : c = mu (fr (L - 1 - i + m - 1)) d)
    (hs : ∀ t, fs' t = if t = L - 1 - i then c else fs t) : Tops fs' fr' L n (i + 1) := by
  refine ⟨fun e => by omega, fun _ => ?_⟩
  rw [hs]
  by_cases e : i = 0
  · subst e
    rw [if_pos (by omega), hc, show L - 1 - 0 + m - 1 = n - 1 by omega]
    exact mu_ne (h.1 rfl) hd
  · rw [if_neg (by omega)]
    exact h.2 (by omega)
theorem finv_at {b : Nat} {w : World} (hF : FieldAt w b) (a : UInt8) (ha : a ≠ 0) {x : Int} (hx : x = ((a.toNat : Nat) : Int)) :
    Calls Tryz.prog 192 #[.pointer (some ⟨b, 0, none⟩), .int .u8 x] w fun e w' => e = .returned (.tuple #[.int .u8 ((iv a).toNat : Nat), .int .i64 0]) ∧ ∃ n, w' = w.drewN n := by
  have h := inv_all hF a.toNat hx (u8_lt a)
  rw [zE_pos (u8_ne ha), ← iv_toNat] at h
  exact h
set_option maxRecDepth 100000 in
set_option maxHeartbeats 4000000 in
theorem pdivide_main {b : Nat} {va vq : Value} {p q : List UInt8} {w : World} (hF : FieldAt w b) (hp : Rd w va p) (hq : Rd w vq q) (hl : p.length ≤ 400000) (hl2 : q.length ≤ 400000) (h0 : 0 < (norm q).length) (h1 : (norm q).length ≤ (norm p).length) :
    Calls Tryz.prog 220 #[.pointer (some ⟨b, 0, none⟩), va, vq] w (MakesDivF w p q) := by
  obtain ⟨i0, hi, hz0, hz1, hz2⟩ := info_parts info_u8
  have hdq := norm_length_le q
  have hdp := norm_length_le p
  have hqt : co q ((norm q).length - 1) ≠ 0 := by rw [norm_length]; exact deg_top _ _ (by rw [← norm_length]; omega)
  have hpt : co p ((norm p).length - 1) ≠ 0 := by rw [norm_length]; exact deg_top _ _ (by rw [← norm_length]; omega)
  have hqf : Fin0 (co q) (norm q).length := by rw [norm, mk_length]; exact deg_fin (co_fin q)
  have hpf : Fin0 (co p) (norm p).length := by rw [norm, mk_length]; exact deg_fin (co_fin p)
  have hQ0 : ∃ bq oq, ∃ cq, vq = .slice (some ⟨bq, oq, none⟩) q.length cq ∧ bq < w.heap.size ∧ w.cell? ⟨bq, oq + ((norm q).length - 1), none⟩ = some (.int .u8 ((co q ((norm q).length - 1)).toNat : Nat)) := by
    rcases hq with ⟨a, c, rfl, _⟩ | ⟨bq, oq, cq, hp0, rfl, g1, g2, g3, hpc⟩
    · rw [show norm [] = [] from rfl] at h0; simp at h0
    · exact ⟨bq, oq, cq, rfl, g3, hpc _ (by omega)⟩
  obtain ⟨bq, oq, cq, rfl, hbq, cqt⟩ := hQ0
  have hQ := hq.part
  have hqf' : Hid (Fin0 (co (norm q)) (norm q).length) := by show Fin0 _ _; rw [co_norm]; exact hqf
  have HCN : Hid _ := co_norm q
  obtain ⟨q', hq'⟩ : ∃ q', Hid (q' = norm q) := ⟨_, rfl⟩
  obtain ⟨m, hm⟩ : ∃ m, Hid (m = (norm q).length) := ⟨_, rfl⟩
  obtain ⟨n, hn⟩ : ∃ n, Hid (n = (norm p).length) := ⟨_, rfl⟩
  rw [← hm.out] at h0 h1 hqt hqf hqf' hdq cqt hQ
  rw [← hq'.out] at hQ hqf' HCN
  rw [← hn.out] at h1 hpt hpf hdp
  have hql : Hid (q'.length = m) := by show _ = _; rw [hq'.out, hm.out]
  have hm0 : ((m : Int) == 0) = false := by rw [beq_eq_false_iff_ne]; omega
  have hnm : ¬ ((n : Int) < (m : Int)) := by omega
  obtain ⟨L, hL⟩ : ∃ L, Hid (L = n - (m - 1)) := ⟨_, rfl⟩
  have hL' := hL.out
  have gL : (n : Int) - ((m : Int) - 1) = (L : Int) := by omega
  have hLn : L ≤ n := by omega
  have hL0 : 0 < L := by omega
  have D0 : Hid (DivInv (co p) (co q) (fun _ => 0) (co p) n m L) := DivInv.start hpf L (by omega)
  have T0 : Hid (Tops (fun _ => 0) (co p) L n 0) := ⟨fun _ => hpt, fun h => by omega⟩
  clear hL'
  go_enter Tryz.func220, Tryz.ntmps220
  go_wp2_with fail
  refine (top_any hq (by omega)).mono ?_
  rintro e w ⟨rfl, rfl⟩
  simp only [← hm.out]
  go_wp2_with fail
  refine (pnorm_own hp (by omega)).mono ?_
  rintro e w1 ⟨rfl, R1, B1⟩
  simp only [← hn.out] at R1 ⊢
  have cqt1 := (B1.cell (p := ⟨bq, oq + (m - 1), none⟩) hbq).trans cqt
  have hF1 := hF.below B1
  obtain ⟨d, hd⟩ : ∃ d, Hid (d = iv (co q (m - 1))) := ⟨_, rfl⟩
  have hd0 : Hid (d ≠ 0) := by show _ ≠ _; rw [hd.out]; exact iv_ne hqt
  have hI := finv_at hF1 (co q (m - 1)) hqt rfl
  rw [← hd.out] at hI
  go_wp2_with fail
  refine hI.mono ?_
  rintro e w2 ⟨rfl, nd, hw2⟩
  have B12 : Below w1.heap.size w1 w2 := by rw [hw2]; exact below_draws _ _
  have R2 := R1.later B12
  have B2 := Below.next B1 B12
  have s2 := B2.size
  have l1 := R2.lt
  clear hI hw2 R1 B1 B12 hF1 cqt1
  go_wp2_with (at_make; go_loud (refine wpList_make_full _ rfl (.tmp 49) (.tmp 49) 36 rfl w.heap.size 5 i0 (.int .u8 0) 1 Tryz.underlying36 hi hz0 hz1 _ _ _ _ L rfl rfl (by omega) (by omega) (by rw [hz2]; omega) (by unfold maxLen; omega) s2 ?_); intro w3 hown3 hgrow3)
  have S3 := RowF.made hown3
  have B23 : Below w2.heap.size w2 w3 := (Below.refl _ _).grown hgrow3 (Nat.le_refl _) (fun k h => by cases h)
  have R3 := R2.later B23
  have B3 := Below.next B2 B23
  clear hown3 hgrow3 R2 B2 B23
  obtain ⟨gs, hgs⟩ : ∃ gs, gs = w2.heap.size := ⟨_, rfl⟩
  simp only [← hgs] at S3 ⊢
  have hne : w.heap.size ≠ gs := by omega
  have hge : w.heap.size ≤ gs := by omega
  clear hgs l1 s2
  go_loopw [53] (fun i wr => ∃ k : Nat, ∃ fs fr : Nat → UInt8, k ≤ L ∧ i = .int .i64 k ∧ Hid (DivInv (co p) (co q) fs fr n m (L - k)) ∧ Hid (Tops fs fr L n k) ∧ Hid (Fin0 fs L) ∧ Hid (Fin0 fr n) ∧ RowF wr w.heap.size 5 w.heap.size n n fr ∧ RowF wr w.heap.size 5 gs L L fs ∧ Below w.heap.size w wr) (fun i _ => L - (intOf i).toNat)
  case atStart => exact ⟨0, _, _, by omega, rfl, D0, T0, fun _ _ => rfl, hpf, R3, S3, B3⟩
  case round =>
    obtain ⟨k, fs, fr, hk, rfl, hD, hT, hFs, hFr, RR, RS, BB⟩ := hrel
    clear D0 T0 R3 S3 B3
    by_cases hlt : k < L
    · obtain ⟨i, hi2⟩ : ∃ i, Hid (i = L - 1 - k) := ⟨_, rfl⟩
      have hi' := hi2.out
      have hLL := hL.out
      have g1 : (L : Int) - 1 - (k : Int) = (i : Int) := by omega
      have hiL : i < L := by omega
      obtain ⟨t, ht⟩ : ∃ t, Hid (t = i + m - 1) := ⟨_, rfl⟩
      have ht' := ht.out
      have htn : t < n := by omega
      have g2 : (i : Int) + ((m : Int) - 1) = (t : Int) := by omega
      have hin : i ≤ n := by omega
      have hmn : m ≤ n - i := by omega
      have hii : i + (n - i) ≤ n := by omega
      have hn9 : n ≤ 140737488355328 := by omega
      have D1 := hD.out
      rw [show L - k = i + 1 by omega] at D1
      obtain ⟨c, hc⟩ : ∃ c, Hid (c = mu (fr t) d) := ⟨_, rfl⟩
      obtain ⟨fs', hfs⟩ : ∃ fs' : Nat → UInt8, ∀ t, fs' t = if t = i then c else fs t := ⟨fun t => if t = i then c else fs t, fun _ => rfl⟩
      have D2 : Hid (DivInv (co p) (co q) fs' (rk fr (co q) c i m) n m i) := by
        have := D1.step (fs' := fs') h0 hqf hqt (by omega) (by rw [← ht', ← hd.out, ← hc.out]; exact hfs)
        rw [← ht', ← hd.out, ← hc.out] at this
        exact this
      have T2 : Hid (Tops fs' (rk fr (co q) c i m) L n (k + 1)) := Tops.step (c := c) (d := d) hT.out h0 hLL hlt hd0.out (by rw [hc.out, ht', hi']) (by rw [← hi']; exact hfs)
      have F2 : Hid (Fin0 fs' L) := fun t htt => by rw [hfs, if_neg (by omega)]; exact hFs.out t htt
      have F3 : Hid (Fin0 (rk fr (co q) c i m) n) := fun t htt => by unfold rk; rw [if_neg (by omega), x_zero]; exact hFr.out t htt
      have HRK : Hid (∀ v, addAll fr i [(v, mulBy q' c)] = rk fr (co q) c i m) := fun v => by rw [← HCN.out]; exact rk_all v fr q' c i m hqf'.out
      have HFS : Hid _ := hfs
      have hki : Hid (L - (k + 1) = i) := by show _ = _; omega
      have c1 := RR.cell htn
      have hF1 := hF.below BB
      have hM := fmu_at hF1 (fr t) d rfl rfl
      rw [← hc.out] at hM
      clear hi' hLL ht' D1 hD hT hFs hFr hfs
      go_wp2_with fail
      refine hM.mono ?_
      rintro e w4 ⟨rfl, hb4⟩
      have RS4 := RS.later hb4
      have RR4 := RR.later hb4
      have BB4 := Below.next BB hb4
      have k1 := RS4.cell hiL
      have k2 := RS4.unfrozen i
      obtain ⟨w5, hw5⟩ : ∃ w5, w5 = w4.setCell ⟨gs, i, none⟩ (.int .u8 ((c.toNat : Nat) : Int)) := ⟨_, rfl⟩
      have RS5 : RowF w5 w.heap.size 5 gs L L fs' := by rw [hw5]; exact RS4.store hiL c HFS.out
      have RR5 : RowF w5 w.heap.size 5 w.heap.size n n fr := by rw [hw5]; exact RR4.other (a := ⟨gs, i, none⟩) hne _
      have BB5 : Below w.heap.size w w5 := by rw [hw5]; exact BB4.setCell (p := ⟨gs, i, none⟩) hge _
      have k3 := RS5.cell hiL
      have e1 : fs' i = c := by rw [HFS.out, if_pos rfl]
      rw [e1] at k3
      have hF5 : FieldAt w5.drew b := hF.below BB5.drew
      have hQ5 : Rd w5.drew (.slice (some ⟨bq, oq, none⟩) m cq) q' := hQ.below BB5.drew
      have RR6 := RR5.drew
      have RS6 := RS5.drew
      have l5 := RR5.lt
      have hAp : ∀ n c, Apart w.heap.size (.slice (some ⟨w5.drew.heap.size, 0, none⟩) n c) := fun n c => apart_block (by show w5.heap.size ≠ w.heap.size; omega)
      have hql5 : q'.length ≤ 400000 := by rw [hql.out]; omega
      have hqm : ∀ c, (mulBy q' c).length ≤ n - i := fun c => by rw [mulBy_length, hql.out]; exact hmn
      clear hM RS4 RR4 BB4 RS RR BB hF1 c1 hb4 e1
      go_wp2_with fail
      rw [← hw5]
      clear hw5 k1 k2
      go_region_with (first
        | (go_at_call 204; refine (times_any hF5 hQ5 hql5 c rfl).mono ?_; rintro e w6 ⟨rfl, hT6, hb6⟩)
        | (go_at_call 203; refine (sum_terms [(_, mulBy q' c)] (RR6.later hb6) hii hn9 rfl rfl (by simp) (by intro x hx; simp at hx; subst hx; exact ⟨hT6, hAp _ _, hqm c⟩)).mono ?_; rintro e w7 ⟨rfl, hO, hR7⟩))
      all_goals go_wp2
      all_goals
        go_roundw
        case rel => exact ⟨k + 1, fs', rk fr (co q) c i m, by omega, by go_num, by rw [hki.out]; exact D2, T2, F2, F3, by rw [← HRK.out _]; exact hR7, (((RS6.later hb6).later ((Below.refl _ _).alloc (Nat.le_refl _) _)).only hne.symm hO), (below_lit (Below.next BB5.drew hb6) _).trans (hO.below (Nat.le_refl _))⟩
        case measure => simp [intOf]; omega
    · have e : k = L := by omega
      subst e
      rw [Nat.sub_self] at hD
      have hDiv := div_done hD.out hm.out.symm h0 hdp hFr.out
      have hdeg : deg fs n = k := deg_unique hD.out.fin hFs.out (fun _ => hT.out.2 hL0)
      have HS : Hid (upto fs k = mk fs n) := by show _ = _; unfold upto mk; rw [hdeg]
      have HR : Hid (norm (upto fr n) = mk fr n) := norm_upto hFr.out hFr.out
      have r1 := RS.rd
      have r2 := RR.rd
      have r3 := r2.part
      have HDD : Hid _ := hDiv
      have HUL : Hid _ := upto_length fr n
      clear hDiv hdeg hD hT hFs hFr RS RR
      go_wp2_with fail
      refine (top_any r2 (by rw [HUL.out]; omega)).mono ?_
      rintro e wr ⟨rfl, rfl⟩
      go_wp2
      go_ret3
      refine ⟨_, _, mk fs n, mk fr n, rfl, HDD.out, ?_, ?_, BB, far_some hge, far_some (Nat.le_refl _)⟩
      · rw [← HS.out]; exact r1
      · rw [← HR.out]; exact r3
theorem pdivide_far {b : Nat} {va vq : Value} {p q : List UInt8} {w : World} (hF : FieldAt w b) (hp : Rd w va p) (hq : Rd w vq q) (hl : p.length ≤ 400000) (hl2 : q.length ≤ 400000) (h0 : norm q ≠ []) :
    Calls Tryz.prog 220 #[.pointer (some ⟨b, 0, none⟩), va, vq] w (MakesDivF w p q) := by
  have hpos : 0 < (norm q).length := List.length_pos_iff.2 h0
  by_cases h1 : (norm q).length ≤ (norm p).length
  · exact pdivide_main hF hp hq hl hl2 hpos h1
  · exact pdivide_less hF hp hq hl hl2 hpos (by omega)
end Go.Proofs.YtddnfhfangfgeaaGreat.Gf

namespace Go.Proofs.YtddnfhfangfgeaaGreat.Gf
set_option linter.unusedVariables false
set_option linter.unusedSimpArgs false
open Go.RowKit
/-- A slice of numbers of rows. -/
def RdI (w : World) (v : Value) (zs : List Int) : Prop :=
  (∃ ao cap, zs = [] ∧ v = .slice ao 0 cap) ∨ (∃ b off cap, zs ≠ [] ∧ v = .slice (some ⟨b, off, none⟩) zs.length cap ∧ zs.length ≤ maxLen ∧ b < w.heap.size ∧ ∀ i, i < zs.length → w.cell? ⟨b, off + i, none⟩ = some (.int .i64 (zs.getD i 0)))
theorem RdI.below {w w' : World} {v : Value} {zs : List Int} (h : RdI w v zs) (hb : Below w.heap.size w w') : RdI w' v zs := by
  rcases h with h | ⟨b, off, cap, h1, h2, h3, h5, h6⟩
  · exact Or.inl h
  · exact Or.inr ⟨b, off, cap, h1, h2, h3, Nat.lt_of_lt_of_le h5 hb.size, fun i hi => (hb.cell (p := ⟨b, off + i, none⟩) h5).trans (h6 i hi)⟩
theorem RdI.form {w : World} {v : Value} {zs : List Int} (h : RdI w v zs) : ∃ a c, v = .slice a zs.length c := by
  rcases h with ⟨a, c, rfl, rfl⟩ | ⟨b, off, c, _, rfl, _⟩
  · exact ⟨a, c, rfl⟩
  · exact ⟨_, c, rfl⟩
theorem _root_.Go.RowKit.Below.drewN {B : Nat} {a w : World} (h : Below B a w) (n : Nat) : Below B a (w.drewN n) := ⟨h.os, h.tape, h.output, h.size, h.block⟩
end Go.Proofs.YtddnfhfangfgeaaGreat.Gf

namespace Go.Proofs.YtddnfhfangfgeaaGreat.Gf
set_option linter.unusedVariables false
set_option linter.unusedSimpArgs false
open Go.RowKit
/-- Of what was there nothing but the block g has turned. -/
structure Turn (g : Nat) (w w' : World) : Prop where
  os : w'.os = w.os
  tape : w'.tape = w.tape
  output : w'.output = w.output
  size : w.heap.size ≤ w'.heap.size
  block : ∀ k, k < w.heap.size → k ≠ g → w'.heap[k]? = w.heap[k]?
theorem Turn.refl (g : Nat) (w : World) : Turn g w w := ⟨rfl, rfl, rfl, Nat.le_refl _, fun _ _ _ => rfl⟩
theorem Turn.trans {g : Nat} {a b c : World} (h : Turn g a b) (k : Turn g b c) : Turn g a c :=
  ⟨k.os.trans h.os, k.tape.trans h.tape, k.output.trans h.output, Nat.le_trans h.size k.size, fun i hi hg => (k.block i (Nat.lt_of_lt_of_le hi h.size) hg).trans (h.block i hi hg)⟩
theorem Below.turn {w w' : World} (h : Below w.heap.size w w') (g : Nat) : Turn g w w' := ⟨h.os, h.tape, h.output, h.size, fun k hk _ => h.block k hk⟩
theorem Only.turn {g : Nat} {w w' : World} (h : Only g w w') : Turn g w w' := ⟨h.os, h.tape, h.output, by rw [h.size]; exact Nat.le_refl _, fun k _ hk => h.block k hk⟩
theorem Turn.below {g B : Nat} {w w' : World} (h : Turn g w w') (hg : B ≤ g) (hB : B ≤ w.heap.size) : Below B w w' :=
  ⟨h.os, h.tape, h.output, h.size, fun k hk => h.block k (by omega) (by omega)⟩
theorem Turn.cell {g : Nat} {w w' : World} (h : Turn g w w') {p : Addr} (hs : p.block < w.heap.size) (hp : p.block ≠ g) : w'.cell? p = w.cell? p := World.cell?_of_block (w := w) (h.block p.block hs hp)
theorem Turn.frozen {g : Nat} {w w' : World} (h : Turn g w w') {p : Addr} (hs : p.block < w.heap.size) (hp : p.block ≠ g) : w'.frozen? p = w.frozen? p := World.frozen?_of_block (w := w) (h.block p.block hs hp)
theorem Rd.turn {g : Nat} {w w' : World} {v : Value} {p : List UInt8} (h : Rd w v p) (ha : Apart g v) (ho : Turn g w w') : Rd w' v p := by
  rcases h with h | ⟨b, off, cap, h1, h2, h3, h4, h5, h6⟩
  · exact Or.inl h
  · have hb : b ≠ g := by
      rcases ha _ _ _ h2 with e | e
      · exact absurd (List.length_eq_zero_iff.1 e) h1
      · exact e
    exact Or.inr ⟨b, off, cap, h1, h2, h3, h4, Nat.lt_of_lt_of_le h5 ho.size, fun i hi => (ho.cell (p := ⟨b, off + i, none⟩) h5 hb).trans (h6 i hi)⟩
theorem RowF.turn {g g' : Nat} {w w' : World} {base e L C : Nat} {f : Nat → UInt8} (h : RowF w base e g L C f) (hg : g ≠ g') (o : Turn g' w w') : RowF w' base e g L C f := by
  obtain ⟨h0, h | ⟨g2, cap, cur, hv, hgg, hh, r⟩⟩ := h
  · exact ⟨h0, Or.inl h⟩
  · refine ⟨h0, Or.inr ⟨g2, cap, cur, hv, hgg, ?_, r⟩⟩
    have eg : g2 = g := by simp at hv; exact hv.1.symm
    have hlt : g2 < w.heap.size := (Array.getElem?_eq_some_iff.1 hh).1
    rw [o.block g2 hlt (by rw [eg]; exact hg)]
    exact hh
/-- n numbers from the place o on, told anew -/
def putAt (f : Nat → UInt8) (o n : Nat) (q : Nat → UInt8) (t : Nat) : UInt8 := if o ≤ t ∧ t < o + n then q (t - o) else f t
theorem putAt_zero (f : Nat → UInt8) (o : Nat) (q : Nat → UInt8) : putAt f o 0 q = f := by funext t; exact if_neg (by omega)
theorem putAt_step (f : Nat → UInt8) (o k : Nat) (q : Nat → UInt8) (t : Nat) : putAt f o (k + 1) q t = if t = o + k then q k else putAt f o k q t := by
  unfold putAt
  by_cases e : t = o + k
  · subst e; rw [if_pos (by omega), if_pos rfl, show o + k - o = k by omega]
  · rw [if_neg e]
    by_cases h : o ≤ t ∧ t < o + k
    · rw [if_pos h, if_pos (by omega)]
    · rw [if_neg h, if_neg (by omega)]
theorem putAt_out {f : Nat → UInt8} {o n : Nat} {q : Nat → UInt8} {t : Nat} (h : t < o ∨ o + n ≤ t) : putAt f o n q t = f t := if_neg (by omega)
theorem putAt_in {f : Nat → UInt8} {o n : Nat} {q : Nat → UInt8} {k : Nat} (h : k < n) : putAt f o n q (o + k) = q k := by
  unfold putAt; rw [if_pos (by omega), show o + k - o = k by omega]
/-- the row's cells, as they lie -/
theorem RowF.heap {w : World} {base e g L C : Nat} {f : Nat → UInt8} (h : RowF w base e g L C f) (hLC : L = C) : w.heap[g]? = some (.cells ((upto f L).map vb).toArray e (0, 0)) ∧ C ≤ maxLen := by
  obtain ⟨h0, ⟨hv, _⟩ | ⟨g2, cap, cur, hv, hgg, hh, h1, h2, h3, h4⟩⟩ := h
  · simp at hv
  · have e1 : g2 = g := by simp at hv; exact hv.1.symm
    have e2 : cap = C := by simp at hv; exact (by first | exact hv.symm | exact hv.2.symm)
    clear hv
    subst e1 e2 hLC
    refine ⟨?_, h2⟩
    rw [hh, ← h4, Nat.mul_one]
    congr 2
    apply Array.ext'
    have : cur.toList.length = L := by rw [Array.length_toList, h3, Nat.mul_one]
    rw [List.toList_toArray, ← this, List.take_length]
theorem RowF.of_heap {w : World} {base e g L : Nat} {f : Nat → UInt8} (hg : base ≤ g) (hm : L ≤ maxLen) (h : w.heap[g]? = some (.cells ((upto f L).map vb).toArray e (0, 0))) : RowF w base e g L L f := by
  have hl : ((upto f L).map vb).length = L := by rw [List.length_map, upto_length]
  refine ⟨by rw [hl, Nat.mul_one], Or.inr ⟨g, L, _, rfl, hg, h, Nat.le_refl _, hm, by rw [List.size_toArray, hl, Nat.mul_one], ?_⟩⟩
  rw [Nat.mul_one, List.toList_toArray]
  exact List.take_of_length_le (by rw [hl]; exact Nat.le_refl _)
theorem co_drop (p : List UInt8) (n i : Nat) : co (p.drop n) i = co p (n + i) := by unfold co; rw [List.getElem?_drop]
theorem co_upto_lt {f : Nat → UInt8} {n i : Nat} (h : i < n) : co (upto f n) i = f i := co_map_range f h
theorem splice_upto {f : Nat → UInt8} {L o : Nat} {p : List UInt8} (h : o + p.length ≤ L) : splice ((upto f L).map vb) o (p.map vb) = (upto (putAt f o p.length (co p)) L).map vb := by
  unfold splice
  rw [← List.map_take, ← List.map_drop, ← List.map_append, ← List.map_append]
  congr 1
  refine co_ext ?_ ?_
  · simp [upto]; omega
  · intro i hi
    rw [List.length_append, List.length_append, List.length_take, List.length_drop, upto_length, List.length_map] at hi
    rw [co_upto_lt (f := putAt f o p.length (co p)) (show i < L by omega)]
    by_cases h1 : i < o
    · rw [putAt_out (Or.inl h1), co_append_lt (by rw [List.length_take, upto_length]; omega), co_take h1, co_upto_lt (by omega)]
    · by_cases h2 : i < o + p.length
      · obtain ⟨k, rfl⟩ := Nat.exists_eq_add_of_le (show o ≤ i by omega)
        rw [putAt_in (show k < p.length by omega), co_append_ge (by rw [List.length_take, upto_length]; omega), List.length_take, upto_length]
        rw [co_append_lt (by omega), show o + k - min o L = k by omega]
      · rw [putAt_out (Or.inr (by omega)), co_append_ge (by rw [List.length_take, upto_length]; omega), List.length_take, upto_length, co_append_ge (by omega), co_drop, List.length_map]
        rw [show o + p.length + (i - min o L - p.length) = i by omega, co_upto_lt (by omega)]
theorem only_setRow (w : World) (g : Nat) (cs : Array Value) : Only g w (w.setRow g cs) := ⟨rfl, rfl, rfl, by simp [World.setRow], fun k hk => setRow_other w g k cs hk⟩
/-- 'copy' into a part of a row of the call's own, as a step of a region that draws its order. -/
theorem step_copy_rd {P : Program} {ops : Array Oper} {o : Oper} {a : Act} {w : World} {K : Act → World → Prop} {Q : Exit → Act → World → Prop} {E : Prop} (hgd : o.guard = none) (d s : Operand) (dT sT : TypeId)
    (ho : o.op = .call { callee := .builtin .copy, args := #[d, s], argTypes := #[dT, sT] }) (elem : TypeId) (hu : P.underlying dT = some (.slice elem)) (hsz : (P.info? elem).map (·.size) = some 1)
    {g off n dl dCap : Nat} {va : Value} {p : List UInt8} {base e L : Nat} {f : Nat → UInt8} (hd : a.eval d = .slice (some ⟨g, off, none⟩) dl dCap) (hs : a.eval s = va) (hr : Rd w va p) (hn : p.length = n) (hdl : n ≤ dl) (hR : RowF w base e g L L f) (hl : off + n ≤ L)
    (h : ∀ w', Only g w w' → RowF w' base e g L L (putAt f off n (co p)) → K (a.put o.dst (goInt n)) w') :
    if Region.wanted o (yielded ops a.tmps) = true then Oper.wp P o a w K Q else E := by
  have hw : Region.wanted o (yielded ops a.tmps) = true := by simp [Region.wanted, hgd]
  rw [if_pos hw]
  subst hn
  obtain ⟨hg, hm⟩ := hR.heap rfl
  have hlt := hR.lt
  rcases hr with ⟨ao, cap, rfl, rfl, _⟩ | ⟨b, so, cap, hp0, rfl, h1, h2, h3, hpc⟩
  · have hrun := run_copy_none (P := P) w dT sT o.type elem (some ⟨g, off, none⟩) ao dl dCap 0 cap hu hsz (Nat.zero_min _)
    unfold Oper.wp
    simp [execOp, ho, resolve, invoke, builtin, hd, hs, hrun, Result.andThen]
    exact h w (Only.refl _ _) (by rw [List.length_nil, putAt_zero]; exact hR)
  · have hrun := run_copy_row (P := P) w dT sT o.type elem g off dl dCap ⟨b, so, none⟩ p.length cap ((upto f L).map vb).toArray e (p.map vb) hu hsz hg (by rw [List.length_map]; exact (Nat.min_eq_left hdl).symm) (by have := news_of (k := p.length) hpc; rwa [List.take_length] at this) (by simp [upto_length]; exact hl) (vb_one p)
    unfold Oper.wp
    simp [execOp, ho, resolve, invoke, builtin, hd, hs, hrun, Result.andThen]
    refine h _ (only_setRow _ _ _) (RowF.of_heap hlt.1 hm ?_)
    rw [← splice_upto hl]
    simpa [splice] using setRow_heap w g _ _ e _ hg
end Go.Proofs.YtddnfhfangfgeaaGreat.Gf

namespace Go.Proofs.YtddnfhfangfgeaaGreat.Gf
set_option linter.unusedVariables false
set_option linter.unusedSimpArgs false
open Go.RowKit
structure TurnL (G : List Nat) (w w' : World) : Prop where
  os : w'.os = w.os
  tape : w'.tape = w.tape
  output : w'.output = w.output
  size : w.heap.size ≤ w'.heap.size
  block : ∀ k, k < w.heap.size → k ∉ G → w'.heap[k]? = w.heap[k]?
theorem TurnL.refl (G : List Nat) (w : World) : TurnL G w w := ⟨rfl, rfl, rfl, Nat.le_refl _, fun _ _ _ => rfl⟩
theorem TurnL.trans {G : List Nat} {a b c : World} (h : TurnL G a b) (k : TurnL G b c) : TurnL G a c :=
  ⟨k.os.trans h.os, k.tape.trans h.tape, k.output.trans h.output, Nat.le_trans h.size k.size, fun i hi hg => (k.block i (Nat.lt_of_lt_of_le hi h.size) hg).trans (h.block i hi hg)⟩
theorem Below.turnL {w w' : World} (h : Below w.heap.size w w') (G : List Nat) : TurnL G w w' := ⟨h.os, h.tape, h.output, h.size, fun k hk _ => h.block k hk⟩
theorem Only.turnL {g : Nat} {G : List Nat} {w w' : World} (h : Only g w w') (hg : g ∈ G) : TurnL G w w' :=
  ⟨h.os, h.tape, h.output, by rw [h.size]; exact Nat.le_refl _, fun k _ hk => h.block k (fun e => hk (by rw [e]; exact hg))⟩
theorem TurnL.put {G : List Nat} {a w : World} (h : TurnL G a w) {g : Nat} (hg : g ∈ G) (j : Nat) (u : Value) : TurnL G a (w.setCell ⟨g, j, none⟩ u) := h.trans (((Only.refl g w).setCell j u).turnL hg)
theorem TurnL.drew {G : List Nat} {a w : World} (h : TurnL G a w) : TurnL G a w.drew := ⟨h.os, h.tape, h.output, h.size, h.block⟩
theorem TurnL.drewN {G : List Nat} {a w : World} (h : TurnL G a w) (n : Nat) : TurnL G a (w.drewN n) := ⟨h.os, h.tape, h.output, h.size, h.block⟩
theorem TurnL.below {G : List Nat} {B : Nat} {w w' : World} (h : TurnL G w w') (hg : ∀ g, g ∈ G → B ≤ g) (hB : B ≤ w.heap.size) : Below B w w' :=
  ⟨h.os, h.tape, h.output, h.size, fun k hk => h.block k (by omega) (fun e => by have := hg k e; omega)⟩
theorem TurnL.cell {G : List Nat} {w w' : World} (h : TurnL G w w') {p : Addr} (hs : p.block < w.heap.size) (hp : p.block ∉ G) : w'.cell? p = w.cell? p := World.cell?_of_block (w := w) (h.block p.block hs hp)
theorem TurnL.frozen {G : List Nat} {w w' : World} (h : TurnL G w w') {p : Addr} (hs : p.block < w.heap.size) (hp : p.block ∉ G) : w'.frozen? p = w.frozen? p := World.frozen?_of_block (w := w) (h.block p.block hs hp)
/-- a slice that lies in none of the blocks -/
def ApartL (G : List Nat) (v : Value) : Prop := ∀ x n c, v = .slice (some x) n c → n = 0 ∨ x.block ∉ G
theorem Rd.turnL {G : List Nat} {w w' : World} {v : Value} {p : List UInt8} (h : Rd w v p) (ha : ApartL G v) (ho : TurnL G w w') : Rd w' v p := by
  rcases h with h | ⟨b, off, cap, h1, h2, h3, h4, h5, h6⟩
  · exact Or.inl h
  · have hb : b ∉ G := by
      rcases ha _ _ _ h2 with e | e
      · exact absurd (List.length_eq_zero_iff.1 e) h1
      · exact e
    exact Or.inr ⟨b, off, cap, h1, h2, h3, h4, Nat.lt_of_lt_of_le h5 ho.size, fun i hi => (ho.cell (p := ⟨b, off + i, none⟩) h5 hb).trans (h6 i hi)⟩
/-- one that was there before the blocks were laid -/
theorem Rd.apartL {w : World} {v : Value} {p : List UInt8} {G : List Nat} (h : Rd w v p) (hg : ∀ g, g ∈ G → w.heap.size ≤ g) : ApartL G v := by
  intro x n c e
  rcases h with ⟨a, c', _, e2, _⟩ | ⟨b, off, cap, h1, h2, h3, h4, h5, h6⟩
  · subst e2; simp at e; exact Or.inl e.2.1.symm
  · subst h2; simp at e; obtain ⟨rfl, rfl, rfl⟩ := e; exact Or.inr (fun h => by have := hg b h; omega)
/-- one that was laid behind them -/
theorem ApartL.own {w : World} {base e n : Nat} {v : Value} {xs : List Value} {G : List Nat} (h : w.ownsRow base e 1 v n xs) (hg : ∀ g, g ∈ G → g < base) : ApartL G v := by
  intro x m c ev
  obtain ⟨_, ⟨hv, hn⟩ | ⟨g, cap, cur, hv, hgb, _⟩⟩ := h
  · rw [hv] at ev; simp at ev
  · rw [hv] at ev
    simp at ev
    obtain ⟨rfl, _, _⟩ := ev
    exact Or.inr (fun h => by have := hg g h; omega)
theorem ApartL.nil (G : List Nat) (c : Nat) (a : Option Addr) : ApartL G (.slice a 0 c) := fun x n c' e => by simp at e; exact Or.inl e.2.1.symm
end Go.Proofs.YtddnfhfangfgeaaGreat.Gf

namespace Go.Proofs.YtddnfhfangfgeaaGreat.Gf
set_option linter.unusedVariables false
set_option linter.unusedSimpArgs false
theorem S_swap (n m : Nat) (F : Nat → Nat → UInt8) : S n (fun i => S m (fun j => F i j)) = S m (fun j => S n (fun i => F i j)) := by
  induction n with
  | zero => rw [S]; exact (S_zero fun _ _ => rfl).symm
  | succ n ih =>
    rw [S, ih, ← S_xor]
    exact S_congr fun j _ => rfl
abbrev Mx := Nat → Nat → UInt8
def one : Mx := fun i j => if i = j then 1 else 0
/-- rows change places -/
def sw (p c i : Nat) : Nat := if i = p then c else if i = c then p else i
end Go.Proofs.YtddnfhfangfgeaaGreat.Gf

namespace Go.Proofs.YtddnfhfangfgeaaGreat.Gf
set_option linter.unusedVariables false
set_option linter.unusedSimpArgs false
open Go.RowKit
/-- The numbers of r rows and c columns, one row behind the other. -/
def flat (r c : Nat) (F : Mx) : List UInt8 := upto (fun t => F (t / c) (t % c)) (r * c)
/-- .. and back: the number of a row and a column -/
def en (c : Nat) (A : List UInt8) : Mx := fun i j => co A (i * c + j)
theorem flat_length (r c : Nat) (F : Mx) : (flat r c F).length = r * c := upto_length _ _
theorem place_lt {r c i j : Nat} (hi : i < r) (hj : j < c) : i * c + j < r * c := by
  have : (i + 1) * c ≤ r * c := Nat.mul_le_mul_right c hi
  rw [Nat.add_mul, Nat.one_mul] at this
  omega
theorem place_div {c i j : Nat} (hj : j < c) : (i * c + j) / c = i := by
  rw [Nat.add_comm, Nat.add_mul_div_right _ _ (by omega), Nat.div_eq_of_lt hj, Nat.zero_add]
theorem place_mod {c i j : Nat} (hj : j < c) : (i * c + j) % c = j := by
  rw [Nat.add_comm, Nat.add_mul_mod_self_right, Nat.mod_eq_of_lt hj]
theorem en_flat {r c : Nat} (F : Mx) {i j : Nat} (hi : i < r) (hj : j < c) : en c (flat r c F) i j = F i j := by
  unfold en flat
  rw [upto, co_map_range _ (place_lt hi hj), place_div hj, place_mod hj]
/-- What 'make' lays: a row of noughts. -/
theorem RowF.laid (w : World) {base e n : Nat} (hb : base ≤ w.heap.size) (hn : n ≤ 1000000) : RowF (w.alloc (.cells (madeCells #[.int .u8 0] n) e)) base e w.heap.size n n (fun _ => 0) := by
  have h := World.ownsRow_lit w (size := 1) (e := e) (madeCells #[.int .u8 0] n) n (Nat.le_refl _) (by unfold maxLen; omega) (by rw [← Array.length_toList, toList_madeCells_one]; simp)
  unfold RowF
  rw [upto_zeros]
  rw [toList_madeCells_one] at h
  exact ownsRow_base h hb
theorem Rd.as {w : World} {v : Value} {p q : List UInt8} (h : Rd w v p) (e : p = q) : Rd w v q := e ▸ h
theorem mul_small {r c : Nat} (hr : r ≤ 256) (hc : c ≤ 256) : r * c ≤ 65536 := Nat.le_trans (Nat.mul_le_mul hr hc) (by decide)
/-- A variable of a matrix' type: its three cells. -/
structure Box (w : World) (b : Nat) (r c : Int) (vs : Value) : Prop where
  c0 : w.cell? ⟨b, 0, none⟩ = some (.int .i64 r)
  c1 : w.cell? ⟨b, 1, none⟩ = some (.int .i64 c)
  c2 : w.cell? ⟨b, 2, none⟩ = some vs
theorem Box.only {g b : Nat} {w w' : World} {r c : Int} {vs : Value} (h : Box w b r c vs) (hb : b ≠ g) (o : Only g w w') : Box w' b r c vs :=
  ⟨(o.cell (p := ⟨b, 0, none⟩) hb).trans h.c0, (o.cell (p := ⟨b, 1, none⟩) hb).trans h.c1, (o.cell (p := ⟨b, 2, none⟩) hb).trans h.c2⟩
theorem Box.below {B b : Nat} {w w' : World} {r c : Int} {vs : Value} (h : Box w b r c vs) (hb : b < B) (o : Below B w w') : Box w' b r c vs :=
  ⟨(o.cell (p := ⟨b, 0, none⟩) hb).trans h.c0, (o.cell (p := ⟨b, 1, none⟩) hb).trans h.c1, (o.cell (p := ⟨b, 2, none⟩) hb).trans h.c2⟩
/-- .. that may be written -/
structure Free (w : World) (b : Nat) : Prop where
  f0 : w.frozen? ⟨b, 0, none⟩ = false
  f1 : w.frozen? ⟨b, 1, none⟩ = false
  f2 : w.frozen? ⟨b, 2, none⟩ = false
theorem Free.only {g b : Nat} {w w' : World} (h : Free w b) (hb : b ≠ g) (o : Only g w w') : Free w' b :=
  ⟨(o.frozen (p := ⟨b, 0, none⟩) hb).trans h.f0, (o.frozen (p := ⟨b, 1, none⟩) hb).trans h.f1, (o.frozen (p := ⟨b, 2, none⟩) hb).trans h.f2⟩
theorem Free.below {B b : Nat} {w w' : World} (h : Free w b) (hb : b < B) (o : Below B w w') : Free w' b :=
  ⟨(o.frozen (p := ⟨b, 0, none⟩) hb).trans h.f0, (o.frozen (p := ⟨b, 1, none⟩) hb).trans h.f1, (o.frozen (p := ⟨b, 2, none⟩) hb).trans h.f2⟩
theorem Below.box {B b : Nat} {w w' : World} {r c : Int} {vs : Value} (o : Below B w w') (hb : b < B) (h : Box w b r c vs) : Box w' b r c vs := h.below hb o
theorem Below.free {B b : Nat} {w w' : World} (o : Below B w w') (hb : b < B) (h : Free w b) : Free w' b := h.below hb o
theorem Box.new (w : World) (r c : Int) (vs : Value) (t : TypeId) : Box (w.alloc (.cells #[.int .i64 r, .int .i64 c, vs] t)) w.heap.size r c vs := ⟨by simp, by simp, by simp⟩
theorem Free.new (w : World) (cs : Array Value) (t : TypeId) : Free (w.alloc (.cells cs t)) w.heap.size := ⟨World.frozen?_alloc_at cs t _ _ rfl, World.frozen?_alloc_at cs t _ _ rfl, World.frozen?_alloc_at cs t _ _ rfl⟩
theorem Box.alloc {w : World} {b : Nat} {r c : Int} {vs : Value} (h : Box w b r c vs) (hb : b < w.heap.size) (o : Obj) : Box (w.alloc o) b r c vs := h.below hb ((Below.refl _ _).alloc (Nat.le_refl _) _)
theorem Free.alloc {w : World} {b : Nat} (h : Free w b) (hb : b < w.heap.size) (o : Obj) : Free (w.alloc o) b := h.below hb ((Below.refl _ _).alloc (Nat.le_refl _) _)
/-- The first T numbers of a matrix, row by row. -/
def pf (F : Mx) (c T t : Nat) : UInt8 := if t < T then F (t / c) (t % c) else 0
theorem Box.grown {w w' : World} {b : Nat} {r c : Int} {vs : Value} {row : Option Nat} (h : Box w b r c vs) (hg : w.grownBy w' row) (hb : b < w.heap.size) (hne : some b ≠ row) : Box w' b r c vs :=
  ⟨(hg.cell_far ⟨b, 0, none⟩ hb hne).trans h.c0, (hg.cell_far ⟨b, 1, none⟩ hb hne).trans h.c1, (hg.cell_far ⟨b, 2, none⟩ hb hne).trans h.c2⟩
theorem Free.grown {w w' : World} {b : Nat} {row : Option Nat} (h : Free w b) (hg : w.grownBy w' row) (hb : b < w.heap.size) (hne : some b ≠ row) : Free w' b :=
  ⟨(hg.frozen_far ⟨b, 0, none⟩ hb hne).trans h.f0, (hg.frozen_far ⟨b, 1, none⟩ hb hne).trans h.f1, (hg.frozen_far ⟨b, 2, none⟩ hb hne).trans h.f2⟩
theorem Box.drew {w : World} {b : Nat} {r c : Int} {vs : Value} (h : Box w b r c vs) : Box w.drew b r c vs := ⟨h.c0, h.c1, h.c2⟩
theorem Box.drewN {w : World} {b : Nat} {r c : Int} {vs : Value} (h : Box w b r c vs) (n : Nat) : Box (w.drewN n) b r c vs := ⟨h.c0, h.c1, h.c2⟩
theorem Free.drewN {w : World} {b : Nat} (h : Free w b) (n : Nat) : Free (w.drewN n) b := ⟨h.f0, h.f1, h.f2⟩
theorem Free.drew {w : World} {b : Nat} (h : Free w b) : Free w.drew b := ⟨h.f0, h.f1, h.f2⟩
theorem Rd.somewhere {w : World} {v : Value} {p : List UInt8} (h : Rd w v p) (hp : p ≠ []) : ∃ b off cap, v = .slice (some ⟨b, off, none⟩) p.length cap := by
  rcases h with ⟨a, c, e, _⟩ | ⟨b, off, cap, _, e, _⟩
  · exact absurd e hp
  · exact ⟨b, off, cap, e⟩
theorem Rd.cellAt {w : World} {b off n cap : Nat} {p : List UInt8} (h : Rd w (.slice (some ⟨b, off, none⟩) n cap) p) {i : Nat} (hi : i < p.length) : w.cell? ⟨b, off + i, none⟩ = some (.int .u8 ((co p i).toNat : Nat)) := by
  rcases h with ⟨a, c, e, _⟩ | ⟨b', off', cap', _, e, _, _, _, hc⟩
  · subst e; simp at hi
  · simp at e; obtain ⟨⟨rfl, rfl⟩, _⟩ := e; exact hc i hi
theorem Free.setCell {w : World} {b : Nat} (h : Free w b) (a : Addr) (u : Value) : Free (w.setCell a u) b := ⟨by simp [h.f0], by simp [h.f1], by simp [h.f2]⟩
/-- What a call that answers a matrix leaves. -/
def MakesM (w : World) (r c : Nat) (F : Mx) (e : Ending) (w' : World) : Prop := ∃ vs, e = .returned (.tuple #[.agg #[.int .i64 (r : Int), .int .i64 (c : Int), vs], .int .i64 0]) ∧ Rd w' vs (flat r c F) ∧ Below w.heap.size w w'
end Go.Proofs.YtddnfhfangfgeaaGreat.Gf

namespace Go.Proofs.YtddnfhfangfgeaaGreat.Gf
set_option linter.unusedVariables false
set_option linter.unusedSimpArgs false
open Go.RowKit
theorem Box.turn {g b : Nat} {w w' : World} {r c : Int} {vs : Value} (h : Box w b r c vs) (hs : b < w.heap.size) (hb : b ≠ g) (o : Turn g w w') : Box w' b r c vs :=
  ⟨(o.cell (p := ⟨b, 0, none⟩) hs hb).trans h.c0, (o.cell (p := ⟨b, 1, none⟩) hs hb).trans h.c1, (o.cell (p := ⟨b, 2, none⟩) hs hb).trans h.c2⟩
theorem Free.turn {g b : Nat} {w w' : World} (h : Free w b) (hs : b < w.heap.size) (hb : b ≠ g) (o : Turn g w w') : Free w' b :=
  ⟨(o.frozen (p := ⟨b, 0, none⟩) hs hb).trans h.f0, (o.frozen (p := ⟨b, 1, none⟩) hs hb).trans h.f1, (o.frozen (p := ⟨b, 2, none⟩) hs hb).trans h.f2⟩
theorem FieldAt.turn {g b : Nat} {w w' : World} (h : FieldAt w b) (hb : b ≠ g) (o : Turn g w w') : FieldAt w' b :=
  ⟨fun i hi => (o.cell (p := ⟨b, i, none⟩) h.lt hb).trans (h.powers i hi), fun i hi => (o.cell (p := ⟨b, 255 + i, none⟩) h.lt hb).trans (h.places i hi), Nat.lt_of_lt_of_le h.lt o.size⟩
theorem RdI.turn {g : Nat} {w w' : World} {v : Value} {zs : List Int} (h : RdI w v zs) (ha : Apart g v) (ho : Turn g w w') : RdI w' v zs := by
  rcases h with h | ⟨b, off, cap, h1, h2, h3, h5, h6⟩
  · exact Or.inl h
  · have hb : b ≠ g := by
      rcases ha _ _ _ h2 with e | e
      · exact absurd (List.length_eq_zero_iff.1 e) h1
      · exact e
    exact Or.inr ⟨b, off, cap, h1, h2, h3, Nat.lt_of_lt_of_le h5 ho.size, fun i hi => (ho.cell (p := ⟨b, off + i, none⟩) h5 hb).trans (h6 i hi)⟩
theorem RdI.apart {w : World} {v : Value} {zs : List Int} {g : Nat} (h : RdI w v zs) (hg : w.heap.size ≤ g) : Apart g v := by
  intro x n c e
  rcases h with ⟨a, c', _, e2⟩ | ⟨b, off, cap, h1, h2, h3, h5, h6⟩
  · subst e2; simp at e; exact Or.inl e.2.1.symm
  · subst h2; simp at e; obtain ⟨rfl, rfl, rfl⟩ := e; exact Or.inr (by show b ≠ g; omega)
/-- the numbers of a matrix, one row behind the other -/
def pl (c : Nat) (F : Mx) (t : Nat) : UInt8 := F (t / c) (t % c)
theorem pl_flat (r c : Nat) (F : Mx) : upto (pl c F) (r * c) = flat r c F := rfl
theorem pl_congr {r c : Nat} {F G : Mx} (h : ∀ i j, i < r → j < c → F i j = G i j) : ∀ t, t < r * c → pl c F t = pl c G t := by
  intro t ht
  have hc : 0 < c := by
    rcases Nat.eq_zero_or_pos c with e | e
    · rw [e, Nat.mul_zero] at ht; omega
    · exact e
  exact h _ _ ((Nat.div_lt_iff_lt_mul hc).2 ht) (Nat.mod_lt _ hc)
theorem row_iff {c i t : Nat} (hc : 0 < c) : (i * c ≤ t ∧ t < i * c + c) ↔ t / c = i := by
  constructor
  · rintro ⟨h1, h2⟩
    obtain ⟨j, rfl⟩ := Nat.exists_eq_add_of_le h1
    exact place_div (by omega)
  · rintro rfl
    have h1 := Nat.div_add_mod t c
    have h2 := Nat.mod_lt t hc
    rw [Nat.mul_comm] at h1
    omega
end Go.Proofs.YtddnfhfangfgeaaGreat.Gf

namespace Go.Proofs.YtddnfhfangfgeaaGreat.Gf
set_option linter.unusedVariables false
set_option linter.unusedSimpArgs false
open Go.RowKit
theorem FieldAt.turnL {G : List Nat} {b : Nat} {w w' : World} (h : FieldAt w b) (hb : b ∉ G) (o : TurnL G w w') : FieldAt w' b :=
  ⟨fun i hi => (o.cell (p := ⟨b, i, none⟩) h.lt hb).trans (h.powers i hi), fun i hi => (o.cell (p := ⟨b, 255 + i, none⟩) h.lt hb).trans (h.places i hi), Nat.lt_of_lt_of_le h.lt o.size⟩
end Go.Proofs.YtddnfhfangfgeaaGreat.Gf

namespace Go.Proofs.YtddnfhfangfgeaaGreat.Gf
set_option linter.unusedVariables false
set_option linter.unusedSimpArgs false
open Go.RowKit
theorem owns_form {w : World} {base e n : Nat} {v : Value} {xs : List Value} (h : w.ownsRow base e 1 v n xs) : ∃ a c, v = .slice a n c := by
  obtain ⟨_, ⟨hv, hn⟩ | ⟨g, cap, cur, hv, _⟩⟩ := h
  · subst hn; exact ⟨_, _, hv⟩
  · exact ⟨_, _, hv⟩
end Go.Proofs.YtddnfhfangfgeaaGreat.Gf









namespace Go.Proofs.YtddnfhfangfgeaaGreat.Gf
set_option linter.unusedVariables false
set_option linter.unusedSimpArgs false
open Go.RowKit
theorem nought_facts {w w1 : World} {m u t : Nat} (hown : w1.ownsRow w.heap.size u 1 (.slice (some ⟨(w.alloc (Obj.cells #[.int .i64 0, .int .i64 0, .slice none 0 0] t)).heap.size, 0, none⟩) m m) m (madeCells (Value.cells (.int .u8 0)) (m * 1)).toList)
    (hgrow : (w.alloc (Obj.cells #[.int .i64 0, .int .i64 0, .slice none 0 0] t)).grownBy w1 none) :
    RowF w1 w.heap.size u (w.heap.size + 1) m m (fun _ => 0) ∧ Below w.heap.size w w1 ∧ w1.cell? ⟨w.heap.size, 0, none⟩ = some (.int .i64 0) ∧ w1.cell? ⟨w.heap.size, 1, none⟩ = some (.int .i64 0) ∧ w1.cell? ⟨w.heap.size, 2, none⟩ = some (.slice none 0 0) ∧
    w1.frozen? ⟨w.heap.size, 0, none⟩ = false ∧ w1.frozen? ⟨w.heap.size, 1, none⟩ = false ∧ w1.frozen? ⟨w.heap.size, 2, none⟩ = false := by
  simp only [World.size_alloc] at hown
  have R1 := RowF.made hown
  have B1 : Below (w.heap.size + 1) (w.alloc (Obj.cells #[.int .i64 0, .int .i64 0, .slice none 0 0] t)) w1 := (Below.refl _ _).grown hgrow (by simp) (fun k h => by cases h)
  have B0 : Below w.heap.size w w1 := (below_lit (Below.refl _ _) _).trans (B1.mono (by omega))
  have X0 : Box w1 w.heap.size 0 0 (.slice none 0 0) := Box.below (B := w.heap.size + 1) ⟨by simp, by simp, by simp⟩ (by omega) B1
  have F0 : Free w1 w.heap.size := Free.below (B := w.heap.size + 1) ⟨by simp, by simp, by simp⟩ (by omega) B1
  exact ⟨R1, B0, X0.c0, X0.c1, X0.c2, F0.f0, F0.f1, F0.f2⟩
end Go.Proofs.YtddnfhfangfgeaaGreat.Gf

namespace Go.Proofs.YtddnfhfangfgeaaGreat.Gf
set_option linter.unusedVariables false
def st (x : Nat) : Nat := if x % 2 = 1 then x / 2 ^^^ 2197175160 else x / 2
def stK : Nat → Nat → Nat
  | 0, x => x
  | k + 1, x => st (stK k x)
/-- a step by a byte -/
def sb (x b : Nat) : Nat := stK 8 (x ^^^ b)
def run : Nat → List UInt8 → Nat
  | x, [] => x
  | x, b :: p => run (sb x b.toNat) p
def nt (x : Nat) : Nat := 4294967295 - x
def more (s : Nat) (p : List UInt8) : Nat := nt (run (nt s) p)
theorem xor32 {a b : Nat} (ha : a < 4294967296) (hb : b < 4294967296) : a ^^^ b < 4294967296 := Nat.xor_lt_two_pow (n := 32) ha hb
theorem nt_lt (x : Nat) : nt x < 4294967296 := by unfold nt; omega
theorem nt_inj {x y : Nat} (hx : x < 4294967296) (hy : y < 4294967296) (h : nt x = nt y) : x = y := by unfold nt at h; omega
theorem nt_xor {x : Nat} (h : x < 4294967296) : nt x = x ^^^ 4294967295 := by
  have e := congrArg BitVec.toNat (BitVec.xor_allOnes (x := BitVec.ofNat 32 x))
  rw [BitVec.toNat_xor, BitVec.toNat_not, BitVec.toNat_allOnes, BitVec.toNat_ofNat, Nat.mod_eq_of_lt (by simpa using h)] at e
  unfold nt
  rw [show (4294967295 : Nat) = 2 ^ 32 - 1 from rfl, e]
theorem st_lt {x : Nat} (h : x < 4294967296) : st x < 4294967296 := by
  unfold st
  split
  · exact xor32 (by omega) (by decide)
  · omega
theorem stK_lt {x : Nat} (h : x < 4294967296) : ∀ k, stK k x < 4294967296
  | 0 => h
  | k + 1 => st_lt (stK_lt h k)
theorem half_xor (x y : Nat) : (x ^^^ y) / 2 = x / 2 ^^^ y / 2 := by
  have h := Nat.shiftRight_xor_distrib (a := x) (b := y) (i := 1)
  simpa [Nat.shiftRight_eq_div_pow] using h
theorem odd_xor (x y : Nat) : (x ^^^ y) % 2 = (x % 2 + y % 2) % 2 := by
  have h := Nat.testBit_xor x y 0
  rw [Nat.testBit_zero, Nat.testBit_zero, Nat.testBit_zero] at h
  rcases Nat.mod_two_eq_zero_or_one x with hx | hx <;> rcases Nat.mod_two_eq_zero_or_one y with hy | hy <;> rcases Nat.mod_two_eq_zero_or_one (x ^^^ y) with hz | hz <;> rw [hx, hy, hz] at h <;> first | (simp at h; done) | (rw [hx, hy, hz])
theorem xo_left (a b c : Nat) : a ^^^ (b ^^^ c) = b ^^^ (a ^^^ c) := by rw [← Nat.xor_assoc, Nat.xor_comm a b, Nat.xor_assoc]
theorem st_xor (x y : Nat) : st (x ^^^ y) = st x ^^^ st y := by
  unfold st
  rw [odd_xor, half_xor]
  rcases Nat.mod_two_eq_zero_or_one x with hx | hx <;> rcases Nat.mod_two_eq_zero_or_one y with hy | hy
  · rw [hx, hy]; simp
  · rw [hx, hy]; simp [Nat.xor_assoc]
  · rw [hx, hy]; simp only [Nat.add_zero, Nat.reduceMod, ↓reduceIte, Nat.zero_ne_one]
    rw [Nat.xor_assoc, Nat.xor_assoc, Nat.xor_comm 2197175160]
  · rw [hx, hy]
    simp only [Nat.reduceAdd, Nat.reduceMod, ↓reduceIte, Nat.zero_ne_one]
    rw [Nat.xor_assoc, xo_left 2197175160, Nat.xor_self, Nat.xor_zero]
theorem stK_xor (x y : Nat) : ∀ k, stK k (x ^^^ y) = stK k x ^^^ stK k y
  | 0 => rfl
  | k + 1 => by rw [stK, stK_xor x y k, st_xor]; rfl
theorem st_zero {x : Nat} (hx : x < 4294967296) (h : st x = 0) : x = 0 := by
  unfold st at h
  split at h
  · have : x / 2 = 2197175160 := by
      have e := congrArg (· ^^^ 2197175160) h
      simp only [Nat.xor_assoc, Nat.xor_self, Nat.xor_zero, Nat.zero_xor] at e
      exact e
    omega
  · omega
theorem stK_zero {x : Nat} (hx : x < 4294967296) : ∀ k, stK k x = 0 → x = 0
  | 0, h => h
  | k + 1, h => stK_zero hx k (st_zero (stK_lt hx k) h)
theorem xor_zero_eq {a b : Nat} (h : a ^^^ b = 0) : a = b := by
  have e := congrArg (· ^^^ b) h
  simp only [Nat.xor_assoc, Nat.xor_self, Nat.xor_zero, Nat.zero_xor] at e
  exact e
theorem byte32 (b : UInt8) : b.toNat < 4294967296 := by have := b.toNat_lt; omega
theorem sb_lt {x : Nat} (hx : x < 4294967296) (b : UInt8) : sb x b.toNat < 4294967296 := stK_lt (xor32 hx (byte32 b)) 8
theorem sb_xor (x y b c : Nat) : sb (x ^^^ y) (b ^^^ c) = sb x b ^^^ sb y c := by
  unfold sb
  rw [← stK_xor]
  congr 1
  rw [Nat.xor_assoc, Nat.xor_assoc, xo_left y]
theorem sb_inj {x y : Nat} (hx : x < 4294967296) (hy : y < 4294967296) (b : UInt8) (h : sb x b.toNat = sb y b.toNat) : x = y := by
  refine xor_zero_eq (stK_zero (xor32 hx hy) 8 ?_)
  have e := sb_xor x y b.toNat b.toNat
  rw [h, Nat.xor_self, Nat.xor_self] at e
  unfold sb at e
  rw [Nat.xor_zero] at e
  exact e
theorem sb_byte {x : Nat} (hx : x < 4294967296) {b c : UInt8} (h : sb x b.toNat = sb x c.toNat) : b = c := by
  have e := sb_xor x x b.toNat c.toNat
  rw [h, Nat.xor_self, Nat.xor_self] at e
  unfold sb at e
  rw [Nat.zero_xor] at e
  have := xor_zero_eq (stK_zero (xor32 (byte32 b) (byte32 c)) 8 e)
  exact UInt8.toNat_inj.1 this
theorem run_lt {x : Nat} (hx : x < 4294967296) (p : List UInt8) : run x p < 4294967296 := by
  induction p generalizing x with
  | nil => exact hx
  | cons b p ih => exact ih (sb_lt hx b)
theorem run_append (x : Nat) (p q : List UInt8) : run x (p ++ q) = run (run x p) q := by
  induction p generalizing x with
  | nil => rfl
  | cons b p ih => exact ih _
theorem run_inj {x y : Nat} (hx : x < 4294967296) (hy : y < 4294967296) (p : List UInt8) (h : run x p = run y p) : x = y := by
  induction p generalizing x y with
  | nil => exact h
  | cons b p ih => exact sb_inj hx hy b (ih (sb_lt hx b) (sb_lt hy b) h)
theorem run_take (x : Nat) (p : List UInt8) {k : Nat} (h : k < p.length) : run x (p.take (k + 1)) = sb (run x (p.take k)) p[k].toNat := by
  rw [List.take_succ_eq_append_getElem h, run_append]; rfl
theorem more_lt (s : Nat) (p : List UInt8) : more s p < 4294967296 := nt_lt _
/-- one byte that is another one is told -/
theorem more_tells {p q : List UInt8} {b c : UInt8} {s : Nat} (hbc : b ≠ c) : more s (p ++ b :: q) ≠ more s (p ++ c :: q) := by
  intro h
  have h1 := nt_inj (run_lt (nt_lt _) _) (run_lt (nt_lt _) _) h
  rw [run_append, run_append] at h1
  have hx : run (nt s) p < 4294967296 := run_lt (nt_lt _) _
  exact hbc (sb_byte hx (run_inj (sb_lt hx b) (sb_lt hx c) q h1))
end Go.Proofs.YtddnfhfangfgeaaGreat.Gf

namespace Go.Proofs.YtddnfhfangfgeaaGreat.Gf
set_option linter.unusedVariables false
set_option linter.unusedSimpArgs false
open Go.RowKit
theorem Below.step {w w1 w2 : World} (h : Below w.heap.size w w1) (k : Below w1.heap.size w1 w2) : Below w.heap.size w w2 := h.trans (k.mono h.size)
theorem rd_nil0 {w : World} : Rd w (.slice none 0 0) [] := Or.inl ⟨none, 0, rfl, rfl, Nat.zero_le _, fun _ => rfl⟩
end Go.Proofs.YtddnfhfangfgeaaGreat.Gf

namespace Go.Proofs.YtddnfhfangfgeaaGreat.Gf
set_option linter.unusedVariables false
set_option linter.unusedSimpArgs false
open Go.RowKit
theorem own_new (w : World) (e : TypeId) : (w.alloc (.cells #[] e)).ownsRow w.heap.size e 1 (.slice (some ⟨w.heap.size, 0, none⟩) 0 0) 0 [] := World.ownsRow_made w #[] 0 (Nat.le_refl _) (Nat.zero_le _) rfl
theorem rd_one {w : World} {N e : Nat} {v : Value} {p : List UInt8} (h : w.ownsRow N e 1 v (0 + p.length) ([] ++ p.map vb)) : Rd w v p := by
  refine Rd.owned (base := N) (e := e) ?_
  rw [Nat.zero_add, List.nil_append] at h
  exact h
theorem tells_set {L : List UInt8} {t : Nat} (ht : t < L.length) {y : UInt8} (hy : y ≠ co L t) : more 0 (L.set t y) ≠ more 0 L := by
  have e1 : L.set t y = L.take t ++ y :: L.drop (t + 1) := by rw [List.set_eq_take_append_cons_drop, if_pos ht]
  have e2 : L = L.take t ++ co L t :: L.drop (t + 1) := by
    rw [co_lt ht]
    conv => lhs; rw [← List.take_append_drop t L, List.drop_eq_getElem_cons ht]
  rw [e1]
  conv => rhs; rw [e2]
  exact more_tells hy
end Go.Proofs.YtddnfhfangfgeaaGreat.Gf

namespace Go.Proofs.YtddnfhfangfgeaaGreat.Gf
set_option linter.unusedVariables false
set_option linter.unusedSimpArgs false
open Go.RowKit
theorem val_int32 {k : IntKind} {a b : Int} (h : a = b) : Value.int k a = .int k b := by rw [h]
theorem not_u32 {s : Nat} (hs : s < 4294967296) : bits .xor .u32 IntKind.u32.max (s : Int) = ((nt s : Nat) : Int) := by
  rw [show IntKind.u32.max = ((4294967295 : Nat) : Int) from rfl, u32_xor_nat _ _ (by decide) hs, nt_xor hs, Nat.xor_comm]
theorem st_odd {s : Nat} (hs : s < 4294967296) (h : s % 2 = 1) : bits .xor .u32 ((s : Int) / 2) 2197175160 = ((st s : Nat) : Int) := by
  rw [show (s : Int) / 2 = ((s / 2 : Nat) : Int) by omega, show (2197175160 : Int) = ((2197175160 : Nat) : Int) from rfl, u32_xor_nat _ _ (by omega) (by decide)]
  unfold st; rw [if_pos h]
theorem st_even {s : Nat} (h : ¬ s % 2 = 1) : (s : Int) / 2 = ((st s : Nat) : Int) := by
  unfold st; rw [if_neg h]; omega
end Go.Proofs.YtddnfhfangfgeaaGreat.Gf

namespace Go.Proofs.YtddnfhfangfgeaaGreat.Gf
set_option linter.unusedVariables false
set_option linter.unusedSimpArgs false
open Go.RowKit
theorem stK_add (a b x : Nat) : stK (a + b) x = stK a (stK b x) := by
  induction a with
  | zero => rw [Nat.zero_add]; rfl
  | succ a ih => rw [show a + 1 + b = (a + b) + 1 by omega]; show st (stK (a + b) x) = st (stK a (stK b x)); rw [ih]
theorem stK_even {t : Nat} : ∀ m, t % 2 ^ m = 0 → stK m t = t / 2 ^ m
  | 0, _ => by simp [stK]
  | m + 1, h => by
    have h1 : t % 2 ^ m = 0 := by
      have e : t % 2 ^ (m + 1) % 2 ^ m = t % 2 ^ m := Nat.mod_mod_of_dvd t ⟨2, by rw [Nat.pow_succ]⟩
      rw [h] at e
      simpa using e.symm
    show st (stK m t) = _
    rw [stK_even m h1]
    have h2 : t / 2 ^ m % 2 = 0 := by
      rw [Nat.pow_succ, Nat.mod_mul] at h
      have := Nat.two_pow_pos m
      rcases Nat.eq_zero_or_pos (t / 2 ^ m % 2) with h3 | h3
      · exact h3
      · have := Nat.mul_pos this h3
        omega
    unfold st
    rw [if_neg (by omega), Nat.div_div_eq_div_mul, Nat.pow_succ]
/-- where no 1 is left among the lowest bits nothing but shifts is left to do -/
theorem stK_early {q j t : Nat} (hj : j < 8) (ht : t = stK j q) (h : t % 256 * 2 ^ j % 256 = 0) : t / 2 ^ (8 - j) = stK 8 q := by
  have e : stK 8 q = stK (8 - j) t := by rw [ht, ← stK_add]; congr 1; omega
  rw [e, stK_even]
  have h1 : t * 2 ^ j % 256 = 0 := by rw [Nat.mod_mul_mod] at h; exact h
  have h2 : (256 : Nat) = 2 ^ (8 - j) * 2 ^ j := by rw [← Nat.pow_add, show 8 - j + j = 8 by omega]
  rw [h2, Nat.mul_mod_mul_right] at h1
  rcases Nat.mul_eq_zero.1 h1 with h3 | h3
  · exact h3
  · exact absurd h3 (Nat.pos_iff_ne_zero.1 (Nat.two_pow_pos j))
theorem bit0_even {s : Nat} (hs : s < 4294967296) : (bits .and .u32 (s : Int) 1 == 0) = decide (¬ s % 2 = 1) := by
  rw [show (1 : Int) = ((1 : Nat) : Int) from rfl, u32_and_nat s 1 hs (by decide), Bool.eq_iff_iff, beq_iff_eq, decide_eq_true_eq, Nat.and_one_is_mod]
  omega
set_option maxRecDepth 100000 in
set_option maxHeartbeats 1000000 in
theorem cshifted_any {s : Nat} {w : World} {u : Int} (hu : u = (s : Int)) (hs : s < 4294967296) :
    Calls Tryz.prog 183 #[.int .u32 u] w fun e w' => e = .returned (.int .u32 ((st s : Nat) : Int)) ∧ w' = w := by
  subst hu
  have d := bit0_even hs
  by_cases h2 : s % 2 = 1
  · rw [decide_eq_false (by omega)] at d
    have X : Hid (bits .xor .u32 ((s : Int) / 2) 2197175160 = ((st s : Nat) : Int)) := st_odd hs h2
    go_enter Tryz.func183, Tryz.ntmps183
    go_wp2
    go_ret
    exact ⟨by rw [X.out]; rfl, rfl⟩
  · rw [decide_eq_true h2] at d
    have X : Hid ((s : Int) / 2 = ((st s : Nat) : Int)) := st_even h2
    go_enter Tryz.func183, Tryz.ntmps183
    go_wp2
    go_ret
    exact ⟨by rw [X.out]; rfl, rfl⟩
set_option maxRecDepth 100000 in
set_option maxHeartbeats 1000000 in
theorem cmore_any {s : Nat} {v : Value} {p : List UInt8} {w : World} {u : Int} (hu : u = (s : Int)) (hs : s < 4294967296) (hp : Rd w v p) (hl : p.length ≤ 1000000) :
    Calls Tryz.prog 158 #[.int .u32 u, v] w fun e w' => e = .returned (.int .u32 ((more s p : Nat) : Int)) ∧ Below w.heap.size w w' := by
  subst hu
  have N0 := not_u32 hs
  have hn := nt_lt s
  have HM : Hid (more s p = nt (run (nt s) p)) := rfl
  have N1 := not_u32 (run_lt hn p)
  rw [← HM.out] at N1
  obtain ⟨y, ey⟩ : ∃ y, Hid (y = nt s) := ⟨_, rfl⟩
  rw [← ey.out] at N0 hn N1
  obtain ⟨a, c, rfl⟩ := hp.form
  go_enter Tryz.func158, Tryz.ntmps158
  go_wp2
  go_step3
  go_wp2
  go_step3
  go_wp2
  go_loop [5, 13] (fun x i => ∃ k : Nat, k ≤ p.length ∧ i = .int .i64 k ∧ x = .int .u32 ((run y (p.take k) : Nat) : Int)) (fun _ i => p.length - (intOf i).toNat)
  case atStart => exact ⟨0, by omega, rfl, rfl⟩
  case round =>
    obtain ⟨k, hk, rfl, rfl⟩ := hrel
    have hr := run_lt hn (p.take k)
    by_cases hlt : k < p.length
    · have hlt' : (k : Int) < (p.length : Int) := by omega
      rcases hp with ⟨a, c, rfl, _⟩ | ⟨b, o, c, hp0, e0, h1, h2, h3, hpc⟩
      · simp at hlt
      · simp at e0
        obtain ⟨rfl, rfl⟩ := e0
        have c1 := hpc k hlt
        have HS : Hid (run y (p.take (k + 1)) = stK 8 (run y (p.take k) ^^^ (co p k).toNat)) := by show _ = _; rw [run_take y p hlt, co_lt hlt]; rfl
        clear hpc
        obtain ⟨z, ez⟩ : ∃ z, Hid (z = run y (p.take k)) := ⟨_, rfl⟩
        rw [← ez.out] at hr HS ⊢
        have X0 := u32_xor_nat z (co p k).toNat hr (byte32 _)
        have hq := xor32 hr (byte32 (co p k))
        have m0 : (((co p k).toNat : Nat) : Int) % 4294967296 = (((co p k).toNat : Nat) : Int) := by have := (co p k).toNat_lt; omega
        obtain ⟨q, eq⟩ : ∃ q, Hid (q = z ^^^ (co p k).toNat) := ⟨_, rfl⟩
        rw [← eq.out] at X0 hq HS
        go_wp2
        go_loop [5, 8, 21] (fun x l i => ∃ j : Nat, j ≤ 8 ∧ i = .int .i64 j ∧ x = .int .u32 ((stK j q : Nat) : Int)) (fun _ _ i => 8 - (intOf i).toNat)
        case atStart => exact ⟨0, by omega, rfl, rfl⟩
        case round =>
          obtain ⟨j, hj, rfl, rfl⟩ := hrel
          have ht := stK_lt hq j
          have HT : Hid (stK (j + 1) q = st (stK j q)) := rfl
          obtain ⟨t, et⟩ : ∃ t, Hid (t = stK j q) := ⟨_, rfl⟩
          by_cases hj8 : j < 8
          · rw [← et.out] at ht HT ⊢
            by_cases hz : t % 256 * 2 ^ j % 256 = 0
            · have D : ((t : Int) % 256 * 2 ^ j % 256 == 0) = true := by rw [beq_iff_eq]; exact_mod_cast hz
              have HE : Hid (t / 2 ^ (8 - j) = stK 8 q) := stK_early hj8 et.out hz
              go_wp2
              exact ⟨⟨k + 1, by omega, by go_num, val_int32 (by rw [HS.out, ← HE.out]; norm_cast)⟩, by simp [intOf]; omega⟩
            · have D : ((t : Int) % 256 * 2 ^ j % 256 == 0) = false := by rw [beq_eq_false_iff_ne]; exact_mod_cast hz
              go_wp2_with fail
              refine (cshifted_any rfl ht).mono ?_
              rintro e w' ⟨rfl, rfl⟩
              go_wp2
              go_round
              case rel => exact ⟨j + 1, by omega, by go_num, by rw [HT.out]⟩
              case measure => simp [intOf]; omega
          · have e : j = 8 := by omega
            subst e
            go_wp2
            go_round
            case rel => exact ⟨k + 1, by omega, by go_num, by rw [HS.out]⟩
            case measure => simp [intOf]; omega
    · have e : k = p.length := by omega
      have ht : p.take k = p := List.take_of_length_le (by omega)
      have hge : ¬ (k : Int) < (p.length : Int) := by omega
      rw [ht]
      clear ht e
      go_wp2
      try rw [Exit.noGoto_ret]
      go_ret
      exact ⟨rfl, Below.refl _ _⟩
set_option maxRecDepth 100000 in
set_option maxHeartbeats 1000000 in
theorem csum_any {v : Value} {p : List UInt8} {w : World} (hp : Rd w v p) (hl : p.length ≤ 1000000) :
    Calls Tryz.prog 126 #[v] w fun e w' => e = .returned (.int .u32 ((more 0 p : Nat) : Int)) ∧ Below w.heap.size w w' := by
  go_enter Tryz.func126, Tryz.ntmps126
  go_wp2_with fail
  refine (cmore_any (s := 0) rfl (by decide) hp hl).mono ?_
  rintro e w' ⟨rfl, b⟩
  go_wp2
  go_ret
  exact ⟨rfl, b⟩
end Go.Proofs.YtddnfhfangfgeaaGreat.Gf

