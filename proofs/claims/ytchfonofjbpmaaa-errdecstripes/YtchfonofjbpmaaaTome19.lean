/- TEXTS JOINED: ErRefE, WdRefC, WdLawM, WdStr, WdOsB, CaCB, CaCP, BkCA. -/
import Derived.Test.YtchfonofjbpmaaaTome18
import Derived.Test.YtchfonofjbpmaaaTome14
import Derived.Deep.RegionWith
import Derived.Test.YtchfonofjbpmaaaTome12
import Derived.Test.YtchfonofjbpmaaaTome4
import Derived.Test.YtchfonofjbpmaaaTome11
import Derived.Shelf.Abstract
import Derived.Laws.EntriesVeiled
import Derived.Test.YtchfonofjbpmaaaTome7
import Derived.Test.YtchfonofjbpmaaaTome3
/-
  THE DOCUMENT's ANSWER FOR LAYER 7 (package aumbryref07) BY CONTRACT: 'Decode', where shards enough are there.
-/

namespace Go.Proofs.Ytchfonofjbpmaaa.Gf
set_option linter.unusedVariables false
set_option linter.unusedSimpArgs false
open Go.RowKit

set_option maxRecDepth 100000 in
set_option maxHeartbeats 8000000 in
theorem rdec_ok {k m : Nat} {va vl : Value} {h : List Bool} {L : List (List UInt8)} {w : World} (h1 : 1 ≤ k) (h2 : k + m ≤ 256) (hH : RdB w va h) (hL : Rs w vl L) (hok : OkH k m h L) (hS : SmallH h L) (hf : k ≤ (thr h h.length).length) {x y : Int} (hx : x = (k : Int)) (hy : y = (m : Int)) :
    Calls Try.prog 62 #[.int .i64 x, .int .i64 y, va, vl] w (MakesRs w 0 (encL m k (parF k) (decD k (invF k (pl7 h)) (pl7 h) L))) := by
  subst hx hy
  obtain ⟨i0, hi, hz0, hz1, hz2⟩ := info_parts info_u8
  obtain ⟨i1, hj, hy0, hy1, hy2⟩ := info_parts info_shard
  obtain ⟨a1, c1, rfl⟩ := hH.form
  obtain ⟨a2, c2, rfl⟩ := hL.form
  obtain ⟨s, hs⟩ : ∃ s, Hid (s = k + m) := ⟨_, rfl⟩
  have g1 : (k : Int) + (m : Int) = (s : Int) := by have := hs.out; omega
  have gw : IntKind.i64.wrap (s : Int) = (s : Int) := by have := hs.out; rw [IntKind.wrap_i64]; omega
  have gk : IntKind.i64.wrap (k : Int) = (k : Int) := by rw [IntKind.wrap_i64]; omega
  have p1 : Hid (h.length = s) := by show _ = _; have := hok.1; omega
  have p2 : Hid (L.length = s) := by show _ = _; have := hok.2.1; omega
  have E : Hid (EvenH h L) := hok.2.2
  have q0 : ((s : Int) != (s : Int)) = false := by simp
  have hs3 : Hid (s ≤ 256) := by rw [hs.out]; exact h2
  have hf' : Hid _ := hf
  have hin : Hid (∀ i, i < k → pl7 h i < s) := fun i hi => by have := (pl7_in (h := h) (i := i) (by omega)).1; rw [p1.out] at this; exact this
  have hth : Hid (∀ i, i < k → hb h (pl7 h i) = true) := fun i hi => (pl7_in (by omega)).2
  have hns : Hid (¬ IsSing k (rowsF k (pl7 h))) := gen_inv h2 (by rw [p1.out, hs.out]) hf
  have hZ : Hid ((toI (pls7 h k)).length = k) := by show _ = _; rw [toI_length]; exact pls7_length hf
  have hall : Hid (AllIn s (toI (pls7 h k))) := fun i hi => by
    rw [hZ.out] at hi
    have := hin.out i hi
    rw [toI_getD, pls7_getD hi]
    omega
  obtain ⟨n0, hn0⟩ : ∃ n0, Hid (n0 = (ro L (pl7 h 0)).length) := ⟨_, rfl⟩
  have hn3 : n0 ≤ 300 := by rw [hn0.out]; exact hS.2 _ (hth.out 0 (by omega))
  have hlen : Hid (∀ i, i < k → (ro L (pl7 h i)).length = n0) := fun i hi => by rw [hn0.out]; exact E.out _ _ (hth.out i hi) (hth.out 0 (by omega))
  clear hok hS hf
  rw [p1.out] at hH ⊢
  rw [p2.out] at hL ⊢
  go_enter Try.func62, Try.ntmps62
  go_wp2_with fail
  refine (rgen_ok (k := k) (m := m) _ h1 h2 rfl rfl).mono ?_
  rintro e w2 ⟨vs, rfl, hR, b2⟩
  obtain ⟨sa, sc, rfl⟩ := hR.form
  obtain ⟨N, hN⟩ : ∃ N, Hid (N = (flat (k + m) k (genF k)).length) := ⟨_, rfl⟩
  rw [← hN.out] at hR ⊢
  rw [show ((k + m : Nat) : Int) = (s : Int) by rw [hs.out]]
  have A2 : Below w2.heap.size w2 (w2.alloc (.cells #[.int .i64 (s : Int), .int .i64 (k : Int), .slice sa N sc] 74)) := (Below.refl _ _).alloc (Nat.le_refl _) _
  have B2 : Below w.heap.size w (w2.alloc (.cells #[.int .i64 (s : Int), .int .i64 (k : Int), .slice sa N sc] 74)) := below_lit b2 _
  have X2 := Box.new w2 (s : Int) (k : Int) (.slice sa N sc) 74
  have l2 : w2.heap.size < (w2.alloc (.cells #[.int .i64 (s : Int), .int .i64 (k : Int), .slice sa N sc] 74)).heap.size := by simp
  have hH2 := hH.below B2
  have hL2 := hL.below B2
  have hR2 := hR.below A2
  clear hR b2 hH hL A2
  go_wp2_with fail
  refine (rthere_any hH2 hL2 (by rw [p1.out, p2.out]) (by rw [p1.out]; have := hs3.out; omega)).mono ?_
  rintro e w4 (⟨_, v4, rfl, hO4, b4⟩ | ⟨he, _⟩)
  rotate_left
  · exact absurd E.out he
  generalize w2.alloc (.cells #[.int .i64 (s : Int), .int .i64 (k : Int), .slice sa N sc] 74) = w3 at *
  have B4 := Below.next B2 b4
  have hL4 := hL2.below b4
  have hR4 := hR2.below b4
  have X4 := X2.below l2 b4
  have l4 : w2.heap.size < w4.heap.size := Nat.lt_of_lt_of_le l2 b4.size
  obtain ⟨pa, pc, rfl⟩ := hO4.form
  have hcap := hO4.cap
  obtain ⟨g, rfl, hg, _, _⟩ := hO4.cell (i := 0) (by have := hf'.out; omega)
  have hP4 := (hO4.rd (by have := thr_len h h.length; rw [p1.out] at this; have := hs3.out; rw [p1.out]; omega)).first (k := k) hf'.out (by omega)
  rw [show (thr h h.length).take k = pls7 h k from rfl] at hP4
  have hge : ¬ (((thr h h.length).length : Nat) : Int) < (k : Int) := by have := hf'.out; omega
  have hkc : (k : Int) ≤ (pc : Int) := by have := hf'.out; omega
  have hkc' : k ≤ pc := by omega
  have hpm := hcap.2
  unfold maxLen at hpm
  generalize (thr h h.length).length = n7 at *
  have x40 := X4.c0
  have x41 := X4.c1
  have x42 := X4.c2
  have k1 : OkM (s : Int) (k : Int) (flat (k + m) k (genF k)) := okM_mk hs3.out (by omega) (by rw [flat_length, hs.out])
  clear hO4 hH2 hL2 hR2 B2 b4 X2 l2 hcap
  go_wp2_with fail
  refine (rpick_ok (r := s) (c := k) (zs := toI (pls7 h k)) ⟨_, rfl, hR4⟩ hP4 k1 (by rw [hZ.out]; omega)).mono ?_
  rintro e w5 (⟨_, vp, rfl, hP, b5⟩ | ⟨hno, _⟩)
  rotate_left
  · exact absurd hall.out hno
  rw [hZ.out] at hP ⊢
  have B5 := Below.next B4 b5
  have hL5 := hL4.below b5
  have hP5 := hP4.below b5
  obtain ⟨qa, qc, rfl⟩ := hP.form
  obtain ⟨M, hM⟩ : ∃ M, Hid (M = (flat k k (pickF k (flat (k + m) k (genF k)) (toI (pls7 h k)))).length) := ⟨_, rfl⟩
  rw [← hM.out] at hP ⊢
  have A5 : Below w5.heap.size w5 (w5.alloc (.cells #[.int .i64 (k : Int), .int .i64 (k : Int), .slice qa M qc] 74)) := (Below.refl _ _).alloc (Nat.le_refl _) _
  have B6 : Below w.heap.size w (w5.alloc (.cells #[.int .i64 (k : Int), .int .i64 (k : Int), .slice qa M qc] 74)) := below_lit B5 _
  have hL6 := hL5.below A5
  have hP6 := hP5.below A5
  have hQ6 := hP.below A5
  have kk : OkM (k : Int) (k : Int) (flat k k (pickF k (flat (k + m) k (genF k)) (toI (pls7 h k)))) := okM_mk (by omega) (by omega) (by rw [flat_length])
  clear hL4 hP4 hR4 B4 b5 hL5 hP5 hP A5 B5 X4 l4 x40 x41 x42 k1
  go_wp2_with fail
  refine (rinvm_ok (n := k) ⟨_, rfl, hQ6⟩ kk).mono ?_
  have cong : Hid (∀ i j, i < k → j < k → en k (flat k k (pickF k (flat (k + m) k (genF k)) (toI (pls7 h k)))) i j = rowsF k (pl7 h) i j) := fun i j hi hj => by
    rw [en_flat _ hi hj]; exact pick_gen hi hj (by rw [← hs.out]; exact hin.out i hi)
  rintro e w7 (⟨V, hV, vi7, rfl, hR7, b7⟩ | ⟨hsg, _⟩)
  rotate_left
  · exact absurd (hsg.congr cong.out) hns.out
  have hV' : Hid (IsInv k (rowsF k (pl7 h)) V) := hV.congr cong.out (fun _ _ _ _ => rfl)
  rw [invF_flat hV'.out] at hR7
  clear hV hV' cong kk hQ6 hns hall
  obtain ⟨W, hW⟩ : ∃ W, Hid (W = invF k (pl7 h)) := ⟨_, rfl⟩
  rw [← hW.out] at hR7 ⊢
  generalize w5.alloc (.cells #[.int .i64 (k : Int), .int .i64 (k : Int), .slice qa M qc] 74) = w6 at *
  have B7 := Below.next B6 b7
  have hL7 := hL6.below b7
  have hP7 := hP6.below b7
  obtain ⟨ia, ic, rfl⟩ := hR7.form
  obtain ⟨I, hI⟩ : ∃ I, Hid (I = (flat k k W).length) := ⟨_, rfl⟩
  have hIk : Hid (I = k * k) := by show _ = _; rw [hI.out, flat_length]
  rw [← hI.out] at hR7 ⊢
  have A7 : Below w7.heap.size w7 (w7.alloc (.cells #[.int .i64 (k : Int), .int .i64 (k : Int), .slice ia I ic] 74)) := (Below.refl _ _).alloc (Nat.le_refl _) _
  have B8 : Below w.heap.size w (w7.alloc (.cells #[.int .i64 (k : Int), .int .i64 (k : Int), .slice ia I ic] 74)) := below_lit B7 _
  have X8 := Box.new w7 (k : Int) (k : Int) (.slice ia I ic) 74
  have l8 : w7.heap.size < (w7.alloc (.cells #[.int .i64 (k : Int), .int .i64 (k : Int), .slice ia I ic] 74)).heap.size := by simp
  have hL8 := hL7.below A7
  have hP8 := hP7.below A7
  have hR8 := hR7.below A7
  clear hL6 hP6 B6 b7 hL7 hP7 hR7 A7 B7
  go_wp2
  generalize w7.alloc (.cells #[.int .i64 (k : Int), .int .i64 (k : Int), .slice ia I ic] 74) = w8 at *
  obtain ⟨B, hBB⟩ : ∃ B, Hid (B = w8.heap.size) := ⟨_, rfl⟩
  have hto : ∀ {W' : World}, Below B w8 W' → Below w8.heap.size w8 W' := fun q => by rw [← hBB.out]; exact q
  have HX : Hid (∀ wr, Below B w8 wr → wr.cell? ⟨w7.heap.size, 2, none⟩ = some (.slice ia I ic)) := fun wr hb => (X8.below l8 (hto hb)).c2
  have HP : Hid (∀ wr, Below B w8 wr → ∀ i, i < k → wr.cell? ⟨g, i, none⟩ = some (.int .i64 ((pl7 h i : Nat) : Int))) := fun wr hb i hi => by
    have := (hP8.below (hto hb)).get (i := i) (by rw [hZ.out]; exact hi)
    rwa [toI_getD, pls7_getD hi, Nat.zero_add] at this
  have HA : Hid (∀ wr, Below B w8 wr → Rd wr (.slice ia I ic) (flat k k W)) := fun wr hb => hR8.below (hto hb)
  obtain ⟨db, doff, dc, eL, hdb, hdc, hdm⟩ := hL8.somewhere (by rw [p2.out]; omega)
  simp at eL
  obtain ⟨eL, _, _⟩ := eL
  subst eL
  have HD : Hid (∀ wr, Below B w8 wr → ∀ i, i < k → ∃ xa xc, wr.cell? ⟨db, doff + pl7 h i, none⟩ = some (.slice xa n0 xc) ∧ Rd wr (.slice xa n0 xc) (ro L (pl7 h i))) := fun wr hb i hi => by
    obtain ⟨xa, xc, q1, q2⟩ := (hL8.below (hto hb)).get (i := pl7 h i) (by rw [p2.out]; exact hin.out i hi)
    rw [hlen.out i hi] at q1 q2
    exact ⟨xa, xc, q1, q2⟩
  have hsB : Hid (w.heap.size ≤ B) := by rw [hBB.out]; exact B8.size
  have HB8 : Hid _ := B8
  clear X8 hL8 hP8 hR8 B8 hto
  go_loopw [18, 19] (fun o i wr => ∃ r : Nat, r ≤ k ∧ i = .int .i64 (r : Int) ∧ Os wr B 22 5 o (mkL r (dsh k W (pl7 h) L)) ∧ Below B w8 wr) (fun _ i _ => k - (intOf i).toNat)
  case atStart => exact ⟨0, by omega, rfl, Os.nil _ _ _ _, Below.refl _ _⟩
  case round =>
    obtain ⟨r, hr, rfl, hO, hB⟩ := hrel
    obtain ⟨wo, hwo⟩ : ∃ wo, wo = wr := ⟨_, rfl⟩
    subst hwo
    have hszr : B ≤ wo.heap.size := by rw [hBB.out]; exact hB.size
    by_cases hlt : r < k
    · have hlt' : (r : Int) < (k : Int) := by omega
      obtain ⟨av, cv, ev⟩ := hO.form
      rw [mkL_length] at ev
      subst ev
      have hO' : Hid _ := hO
      have hB' : Hid _ := hB
      clear hO hB
      go_wp2
      go_loopw [20, 21] (fun q i w9 => ∃ t : Nat, t ≤ n0 ∧ i = .int .i64 (t : Int) ∧ w9.ownsRow wo.heap.size 5 1 q t ((upto (dwd W (pl7 h) L r k) t).map vb) ∧ Below wo.heap.size wo w9) (fun _ i _ => n0 - (intOf i).toNat)
      case atStart => exact ⟨0, by omega, rfl, World.ownsRow_nil _ _ _ _, Below.refl _ _⟩
      case round =>
        obtain ⟨t, ht, rfl, hsO, b9⟩ := hrel
        obtain ⟨w9, hw9⟩ : ∃ w9, w9 = wr := ⟨_, rfl⟩
        subst hw9
        have hB9 : Below B w8 w9 := hB'.out.trans (b9.mono hszr)
        have hs9 : wo.heap.size ≤ w9.heap.size := b9.size
        obtain ⟨ya, yc, c0, _⟩ := HD.out _ hB9 0 (by omega)
        have cp0 := HP.out _ hB9 0 (by omega)
        have hi0 := hin.out 0 (by omega)
        obtain ⟨t0, ht0⟩ : ∃ t0, Hid (t0 = pl7 h 0) := ⟨_, rfl⟩
        rw [← ht0.out] at c0 cp0 hi0
        have hi0' : (t0 : Int) < (s : Int) := by omega
        have h0k : (0 : Int) < (k : Int) := by omega
        obtain ⟨ra, rc, es⟩ := owns_form hsO
        subst es
        by_cases hlt3 : t < n0
        · have hlt3' : (t : Int) < (n0 : Int) := by omega
          have hs' : Hid _ := hsO
          have b9' : Hid _ := b9
          have hB9' : Hid _ := hB9
          clear hsO b9 hB9
          go_wp2
          go_loopw [22, 23] (fun xx i wr => ∃ c : Nat, c ≤ k ∧ i = .int .i64 (c : Int) ∧ xx = .int .u8 ((dwd W (pl7 h) L r c t).toNat : Nat) ∧ ∃ nd, wr = w9.drewN nd) (fun _ i _ => k - (intOf i).toNat)
          case atStart => exact ⟨0, by omega, rfl, rfl, 0, rfl⟩
          case round =>
            obtain ⟨c, hc, rfl, rfl, nd, hd0⟩ := hrel
            by_cases hlt4 : c < k
            · have hlt4' : (c : Int) < (k : Int) := by omega
              have hBw : Below B w8 wr := by rw [hd0]; exact hB9'.out.drewN nd
              have hd : Hid (wr = w9.drewN nd) := hd0
              have x2 := HX.out _ hBw
              have cpc := HP.out _ hBw c hlt4
              obtain ⟨za, zc, cz, rz⟩ := HD.out _ hBw c hlt4
              have hic := hin.out c hlt4
              obtain ⟨zb, zo, ez, _, dz⟩ := rz.byte (i := t) (by rw [hlen.out c hlt4]; exact hlt3)
              subst ez
              obtain ⟨T, hT⟩ : ∃ T, Hid (T = r * k + c) := ⟨_, rfl⟩
              have hTN : T < I := by rw [hT.out, hIk.out]; exact place_lt hlt hlt4
              have hNs : I ≤ 65536 := by rw [hIk.out]; exact mul_small (by omega) (by omega)
              obtain ⟨o', ho'⟩ : ∃ o', Hid (o' = r * k) := ⟨_, rfl⟩
              have hoT : o' + c = T := by rw [ho'.out, hT.out]
              have v0 : (r : Int) * (k : Int) = (o' : Int) := by rw [ho'.out]; exact_mod_cast rfl
              have v3 : (o' : Int) + (c : Int) = (T : Int) := by omega
              have v1 : IntKind.i64.wrap (o' : Int) = (o' : Int) := by rw [IntKind.wrap_i64]; omega
              have v2 : IntKind.i64.wrap (T : Int) = (T : Int) := by rw [IntKind.wrap_i64]; omega
              obtain ⟨ab, ao, eva, hab, ca⟩ := (HA.out _ hBw).byte (i := T) (by rw [flat_length, ← hIk.out]; exact hTN)
              have eT : co (flat k k W) T = W r c := by rw [hT.out]; exact en_flat W hlt hlt4
              rw [eT] at ca
              subst eva
              have hTN' : (T : Int) < (I : Int) := by omega
              have E1 := xor_u8 (dwd W (pl7 h) L r c t) (mu (W r c) (co (ro L (pl7 h c)) t))
              have HE : Hid (((dwd W (pl7 h) L r c t).toNat ^^^ (mu (W r c) (co (ro L (pl7 h c)) t)).toNat : Nat) = (dwd W (pl7 h) L r (c + 1) t).toNat) := by show _ = _; rw [dwd_succ, UInt8.toNat_xor]
              obtain ⟨tc, htc⟩ : ∃ tc, Hid (tc = pl7 h c) := ⟨_, rfl⟩
              rw [← htc.out] at cpc cz hic
              have hic' : (tc : Int) < (s : Int) := by omega
              clear hd0 hoT eT rz hBw c0 cp0
              go_wp2
              go_quiet ((go_at_call 96; go_loud (exact Calls.quiet_of_same (rmu6_at (W r c) (co (ro L (pl7 h c)) t) rfl rfl))))
              go_wp2
              go_roundw
              case rel => exact ⟨c + 1, by omega, by go_num, by rw [HE.out], _, by show _ = _; rw [hd.out, World.drewN_drewN]⟩
              case measure => simp [intOf]; omega
            · have hge4 : ¬ (c : Int) < (k : Int) := by omega
              have ec : c = k := by omega
              subst ec
              have hs10 : wr.ownsRow wo.heap.size 5 1 (.slice ra t rc) t ((upto (dwd W (pl7 h) L r c) t).map vb) := by rw [hd0]; exact hs'.out
              have B10 : Hid (Below wo.heap.size wo wr) := by show Below _ _ _; rw [hd0]; exact b9'.out.drewN nd
              have hs10' : wo.heap.size ≤ wr.heap.size := B10.out.size
              clear hd0 hs' b9' hB9' c0 cp0
              go_wp2_with (at_builtin; go_loud (refine wpList_append_rd2 _ rfl (.tmp 119) (.tmp 121) 22 rfl wo.heap.size 5 i0 Try.underlying22 hi hz0 hz1 hz2 (.slice ra t rc) t _ rfl (World.ownsRow.alloc hs10 _) _ [dwd W (pl7 h) L r c t] rfl (rd_lit (n := 1) [dwd W (pl7 h) L r c t] rfl rfl (by decide)) (by simp; omega) (by simp; omega) ?_); intro x' w10 hx10 hg10 hb10)
              have HN : Hid (w10.ownsRow wo.heap.size 5 1 x' (t + 1) ((upto (dwd W (pl7 h) L r c) (t + 1)).map vb)) := (by rw [upto_vb_succ]; exact hx10 : w10.ownsRow wo.heap.size 5 1 x' (t + 1) ((upto (dwd W (pl7 h) L r c) (t + 1)).map vb))
              have HB10 : Hid (Below wo.heap.size wo w10) := (B10.out.alloc hs10' _).grown hg10 (by simp; omega) (fun q hq => (World.ownsRow.lt hs10 q hq).1)
              clear hx10 hg10 hb10 hs10 B10
              go_wp2
              go_roundw
              case rel => exact ⟨t + 1, by omega, by go_num, HN.out, HB10.out⟩
              case measure => simp [intOf]; omega
        · have hge3 : ¬ (t : Int) < (n0 : Int) := by omega
          have et : t = n0 := by omega
          have hx9 : OwnP w9 B 5 (.slice ra t rc) (dsh k W (pl7 h) L r) := by
            unfold OwnP dsh
            rw [upto_length, ← hn0.out, ← et]
            exact ownsRow_base hsO hszr
          have hb1 : ∀ q, (Value.slice ra t rc).ownBlock = some q → wo.heap.size ≤ q := fun q hq => (World.ownsRow.lt hsO q hq).1
          clear hsO et
          go_wp2_with (at_builtin; go_loud (refine wpList_append_os rfl (.tmp 123) (.tmp 125) 36 rfl B 22 i1 Try.underlying36 hj hy0 hy1 hy2 5 (.slice av r cv) (mkL r (dsh k W (pl7 h) L)) rfl hO'.out b9 (.slice ra t rc) (dsh k W (pl7 h) L r) hx9 hb1 _ 1 rfl (by rw [mkL_length]; omega) hszr ?_); intro v' w11 hv11 hb11 _ _)
          have HOn : Hid (Os w11 B 22 5 v' (mkL (r + 1) (dsh k W (pl7 h) L))) := by
            show Os _ _ _ _ _ _
            rw [mkL_succ]; exact hv11
          have HBn : Hid (Below B w8 w11) := hB'.out.trans hb11
          clear hv11 hb11 hx9 hb1 hB9 b9 hO' hB' c0 cp0
          go_wp2
          go_roundw
          case rel => exact ⟨r + 1, by omega, by go_num, HOn.out, HBn.out⟩
          case measure => simp [intOf]; omega
    · have hge5 : ¬ (r : Int) < (k : Int) := by omega
      have er : r = k := by omega
      subst er
      have HR : Rs wo u18 (decD r W (pl7 h) L) := hO.rs
      have BB : Below w.heap.size w wo := Below.trans HB8.out (hB.mono hsB.out)
      obtain ⟨oa, oc, ev⟩ := HR.form
      rw [decD_length] at ev
      subst ev
      clear hO hB HX HP HA HD
      go_wp2_with fail
      refine (renc_ok h1 h2 HR (decD_length _ _ _ _) (decD_even h1) (decD_small (by omega) (by rw [← hn0.out]; exact hn3)) rfl rfl).mono ?_
      rintro e w12 ⟨v12, rfl, hR12, b12⟩
      obtain ⟨fa, fc, rfl⟩ := hR12.form
      have HBn : Hid (Below w.heap.size w w12) := Below.next BB b12
      generalize (encL m r (parF r) (decD r W (pl7 h) L)).length = oL at *
      clear b12 BB HR
      go_wp2
      exact bodyPost_ret (v := .tuple #[.slice fa oL fc, .int .i64 0]) (by simp [results, Try.results62, go_sem]) rfl ⟨_, rfl, by rw [← hW.out]; exact hR12, HBn.out⟩

theorem rdec_any {k m : Int} {va vl : Value} {h : List Bool} {L : List (List UInt8)} {w : World} (hH : RdB w va h) (hL : Rs w vl L) (hS : SmallH h L) :
    Calls Try.prog 62 #[.int .i64 k, .int .i64 m, va, vl] w (MakesRs w (decX k m h L) (decR k m h L)) := by
  rcases dec_cases k m h L with c | ⟨c, d⟩ | ⟨c, d, f⟩ | ⟨c, d, f⟩
  · rw [(decX_bad c).1, (decX_bad c).2]
    exact rdec_bad c
  · rw [(decX_shard c d).1, (decX_shard c d).2]
    obtain ⟨k, m, rfl, rfl, h1, h2⟩ := c.nat
    exact rdec_shard h1 h2 hH hL d rfl rfl
  · rw [(decX_few c d f).1, (decX_few c d f).2]
    obtain ⟨k, m, rfl, rfl, h1, h2⟩ := c.nat
    exact rdec_few h1 h2 hH hL d (by omega) rfl rfl
  · obtain ⟨k, m, rfl, rfl, h1, h2⟩ := c.nat
    rw [(decX_ok c d (by omega)).1, (decX_ok c d (by omega)).2]
    exact rdec_ok h1 h2 hH hL d hS (by omega) rfl rfl

end Go.Proofs.Ytchfonofjbpmaaa.Gf

/-
  THE DOCUMENT's ANSWER FOR LAYER 10 (package aumbryref10) BY CONTRACT: 'tried'.
-/


namespace Go.Proofs.Ytchfonofjbpmaaa.Gf
set_option linter.unusedVariables false
set_option linter.unusedSimpArgs false
open Go.RowKit

/-- how many places a tried word is wrong at -/
noncomputable def tryW (k m : Nat) (z : List UInt8) (ms : List Bool) (T : List Nat) : Nat → Bool := wrg (co z) (co (tryL k m (wth ms T) z)) (hb ms)
theorem try_dec {k m : Nat} {z : List UInt8} {hs : List Bool} (h1 : 1 ≤ k) (h2 : k + m ≤ 256) (hl : hs.length = k + m) (hz : z.length = k + m) (hk : k ≤ (thr hs hs.length).length) :
    decX k m hs (colL z) = 0 ∧ lineL (decR k m hs (colL z)) = tryL k m hs z ∧ (decR k m hs (colL z)).length = k + m ∧ ∀ i, i < (decR k m hs (colL z)).length → (ro (decR k m hs (colL z)) i).length = 1 := by
  have ok : OkC k m := ⟨by omega, by omega, by omega⟩
  have oh : OkH k m hs (colL z) := ⟨by omega, by rw [colL_length]; omega, fun i j hi hj => by
    have h3 := hb_lt hi
    have h4 := hb_lt hj
    rw [colL_row (by omega), colL_row (by omega)]; rfl⟩
  obtain ⟨e1, e2⟩ := decX_ok ok oh hk
  have hu : ∀ f : Nat → UInt8, (upto f k).length = k := fun f => upto_length _ _
  refine ⟨e1, by rw [e2]; rfl, ?_, ?_⟩
  · rw [e2, encL_length, decD_length]
  · rw [e2, encL_length, decD_length, try_col h1 hl hz hk]
    intro i hi
    exact encC_len (hu _) h1 hi

set_option maxRecDepth 100000 in
set_option maxHeartbeats 2000000 in
theorem rtried_any {vw vm vs : Value} {k m : Nat} {z : List UInt8} {ms : List Bool} {T : List Nat} {w : World} (h1 : 1 ≤ k) (h2 : k + m ≤ 256) (hz : z.length = k + m) (hms : ms.length = k + m) (hw : Rd w vw z) (hm : RdB w vm ms) (hs : RdI w vs (toI T))
    (hT : ∀ i, i < T.length → T.getD i 0 < k + m) (ht : T.length + cnt (hb ms) (k + m) ≤ m) {x y : Int} (hx : x = (k : Int)) (hy : y = (m : Int)) :
    Calls Try.prog 33 #[.int .i64 x, .int .i64 y, vw, vm, vs] w fun e w' => ∃ va vd, e = .returned (.tuple #[va, vd, .bool (decide (cnt (tryW k m z ms T) (k + m) ≤ T.length))]) ∧ Rd w' va (tryL k m (wth ms T) z) ∧ OwnI w' w.heap.size 3 vd (plc (tryW k m z ms T) (k + m)) ∧ Below w.heap.size w w' ∧ Far w.heap.size va := by
  subst hx hy
  have hth := wth_there hms ht
  have hwl : (wth ms T).length = k + m := by rw [wth_length]; exact hms
  have HD : Hid _ := try_dec h1 h2 hwl hz hth
  have hS : SmallH (wth ms T) (colL z) := (colL_small (by omega)).h _
  have HLen := try_len h1 hwl hz hth
  have hTl : T.length ≤ 300 := by omega
  have W1 := rwth_any hm hs (by rw [hms]; exact hT) (by omega) hTl
  obtain ⟨a1, c1, e1⟩ := hw.form
  obtain ⟨a2, c2, e2⟩ := hm.form
  have hsf : ∃ a c, vs = .slice a T.length c := by
    rcases hs with ⟨a, c, e, e2⟩ | ⟨b, off, c, _, e2, _⟩
    · have : T.length = 0 := by rw [← toI_length, e]; rfl
      rw [this]; exact ⟨a, c, e2⟩
    · rw [toI_length] at e2; exact ⟨_, c, e2⟩
  obtain ⟨a3, c3, e3⟩ := hsf
  subst e1 e2 e3
  go_enter Try.func33, Try.ntmps33
  have hzz : Hid _ := hz
  have hmm : Hid _ := hms
  have HL : Hid _ := HLen
  clear hz hms HLen hth hwl
  go_wp2_with fail
  refine W1.mono ?_
  rintro e u1 ⟨v1, rfl, O1, b1⟩
  clear W1
  have R1 := O1.rdB
  have hw1 := hw.below b1
  obtain ⟨g1, d1, ef⟩ := R1.form
  subst ef
  clear O1
  go_wp2_with fail
  refine (col_any hw1 (by have := hzz.out; omega)).mono ?_
  rintro e u2 ⟨v2, rfl, R2, b2⟩
  obtain ⟨g2, d2, ef⟩ := R2.form
  subst ef
  have R1' := R1.below b2
  have B2 := Below.next b1 b2
  clear R1 hw1 b1 b2
  go_wp2_with fail
  refine (rdec_any R1' R2 hS).mono ?_
  rintro e u3 ⟨v3, rfl, R3, b3⟩
  have B3 := Below.next B2 b3
  obtain ⟨g3, d3, ef⟩ := R3.form
  subst ef
  rw [HD.out.1]
  clear R1' R2 b3 B2
  go_wp2_with fail
  refine (line_far R3 (by rw [HD.out.2.2.1]; omega) HD.out.2.2.2).mono ?_
  rintro e u4 ⟨v4, rfl, R4, b4, f4⟩
  have HF4 : Hid (Far w.heap.size v4) := f4.mono B3.size
  clear f4
  rw [HD.out.2.1] at R4
  have B4 := Below.next B3 b4
  obtain ⟨g4, d4, ef⟩ := R4.form
  subst ef
  have hw4 := hw.below B4
  have hm4 := hm.below B4
  clear R3 b4 B3
  go_wp2_with fail
  refine (rdif_any R4 hw4 hm4 (by rw [HL.out]; exact hzz.out) (by rw [HL.out]; exact hmm.out) (by rw [HL.out]; omega)).mono ?_
  rintro e u5 ⟨v5, rfl, O5, b5⟩
  rw [HL.out] at O5
  have B5 := Below.next B4 b5
  have R5 := R4.below b5
  have HI : Hid (OwnI u5 w.heap.size 3 v5 (plc (tryW k m z ms T) (k + m))) := ownsRow_base O5 B4.size
  obtain ⟨g5, d5, ef⟩ := O5.form
  subst ef
  have HP : Hid _ := plc_length (tryW k m z ms T) (k + m)
  have hpc : (plc (wrg (co z) (co (tryL k m (wth ms T) z)) (hb ms)) (k + m)).length = cnt (tryW k m z ms T) (k + m) := HP.out
  obtain ⟨C, hC⟩ : ∃ C, Hid (C = cnt (tryW k m z ms T) (k + m)) := ⟨_, rfl⟩
  rw [← hC.out] at hpc
  rw [hpc] at HI ⊢
  simp only [← hC.out]
  have hdec : Hid (decide ((C : Int) ≤ (T.length : Int)) = decide (C ≤ T.length)) := by show _ = _; rw [Bool.eq_iff_iff, decide_eq_true_eq, decide_eq_true_eq]; omega
  clear O5 R4 hw4 hm4 b5 B4 hpc
  go_wp2
  exact bodyPost_ret (v := .tuple #[.slice g4 (tryL k m (wth ms T) z).length d4, .slice g5 C d5, .bool (decide ((C : Int) ≤ (T.length : Int)))]) (by simp [results, Try.results33, go_sem]) rfl ⟨_, _, by rw [hdec.out, hC.out], R5, HI.out, B5, HF4.out⟩

end Go.Proofs.Ytchfonofjbpmaaa.Gf

/-
  PLAIN MATHEMATICS: what the statements of layer 10 ask of words of the code. No program is named here.
-/

namespace Go.Proofs.Ytchfonofjbpmaaa.Gf
set_option linter.unusedVariables false
set_option linter.unusedSimpArgs false
open Go.RowKit

/-- a stripe's word -/
noncomputable def lnW (k m : Nat) (d : List UInt8) : List UInt8 := lineL (encL m k (parF k) (colL d))
theorem lnW_length {k m : Nat} {d : List UInt8} (hd : d.length = k) : (lnW k m d).length = k + m := line_len hd
theorem lnW_code {k m : Nat} {d : List UInt8} (h1 : 1 ≤ k) (h2 : k + m ≤ 256) (hd : d.length = k) : CodeW k m (co (lnW k m d)) := by
  have h := of_decide_eq_true (line_nought (m := m) h1 h2 hd)
  intro l hlm
  have e := h l (by rw [upto_length]; exact hlm)
  rwa [co_upto_in hlm] at e
theorem cnt_none {p : Nat → Bool} {n : Nat} (h : ∀ i, i < n → p i = false) : cnt p n = 0 := by
  induction n with
  | zero => rfl
  | succ n ih => rw [cnt, ih fun i hi => h i (by omega), h n (by omega)]; rfl
theorem plc_none {p : Nat → Bool} {n : Nat} (h : ∀ i, i < n → p i = false) : plc p n = [] := List.length_eq_zero_iff.1 (by rw [plc_length, cnt_none h])
/-- by what a word is another one: places that are told -/
def wrB (y : List UInt8) (ms : List Bool) (i : Nat) : Bool := decide (co y i ≠ 0) && !hb ms i
theorem wrB_wrg {W z y : List UInt8} {ms : List Bool} {n : Nat} (hz : ∀ i, i < n → co z i = co W i ^^^ co y i) {i : Nat} (hi : i < n) : wrg (co z) (co W) (hb ms) i = wrB y ms i := by
  unfold wrg wrB
  rw [hz i hi, Bool.and_comm]
  congr 1
  rw [Bool.eq_iff_iff, decide_eq_true_eq, decide_eq_true_eq]
  constructor
  · intro h e
    exact h (by rw [e, x_zero])
  · intro h e
    have e2 := congrArg (fun x => co W i ^^^ x) e
    rw [show co W i ^^^ co W i = 0 from x_self _, show co W i ^^^ (co W i ^^^ co y i) = co y i from x_cancel _ _] at e2
    exact h e2.symm
theorem rowF_under {B : Nat} {w w' : World} {base e g n c : Nat} {f : Nat → UInt8} (h : RowF w base e g n c f) (hb : Below B w w') (hg : g < B) : RowF w' base e g n c f := by
  obtain ⟨h0, ⟨e1, e2⟩ | ⟨g9, cap, cur, e1, hg9, hh, hc⟩⟩ := h
  · simp at e1
  · simp at e1
    obtain ⟨rfl, rfl⟩ := e1
    exact ⟨h0, Or.inr ⟨g, c, cur, rfl, hg9, (hb.block g hg).trans hh, hc⟩⟩
/-- the first r places of a word are others -/
def bkF (c y : Nat → UInt8) (r t : Nat) : UInt8 := if t < r then c t ^^^ y t else c t
theorem bkF_zero (c y : Nat → UInt8) : bkF c y 0 = c := by funext t; exact if_neg (Nat.not_lt_zero _)
theorem bkF_old (c y : Nat → UInt8) (r : Nat) : bkF c y r r = c r := if_neg (Nat.lt_irrefl _)
theorem bkF_step (c y : Nat → UInt8) (r t : Nat) : bkF c y (r + 1) t = if t = r then c r ^^^ y r else bkF c y r t := by
  unfold bkF
  by_cases e : t = r
  · subst e; rw [if_pos (by omega), if_pos rfl]
  · rw [if_neg e]
    by_cases h : t < r
    · rw [if_pos h, if_pos (by omega)]
    · rw [if_neg h, if_neg (by omega)]
theorem back10 {k m : Nat} {W z y : List UInt8} {ms : List Bool} (h1 : 1 ≤ k) (h2 : k + m ≤ 256) (hW : CodeW k m (co W)) (hWl : W.length = k + m) (hzl : z.length = k + m) (hml : ms.length = k + m) (hz : ∀ i, i < k + m → co z i = co W i ^^^ co y i)
    (hf : 2 * cnt (wrB y ms) (k + m) + cnt (hb ms) (k + m) ≤ m) : wdX k m z ms = 0 ∧ wdR k m z ms = W ∧ wdP k m z ms = plc (wrB y ms) (k + m) := by
  have okc : OkC (k : Int) (m : Int) := ⟨by omega, by omega, by omega⟩
  have okw : OkW (k : Int) (m : Int) z ms := ⟨by omega, by omega⟩
  have hN : Near k m (co z) (hb ms) (co W) := ⟨hW, by rw [cnt_congr fun i hi => wrB_wrg hz hi]; exact hf⟩
  obtain ⟨e1, e2, e3⟩ := wd_ok okc okw hN
  refine ⟨e1, e2.trans (by rw [← hWl]; exact upto_co _), e3.trans ?_⟩
  unfold plc
  exact List.filter_congr fun i hi => wrB_wrg hz (List.mem_range.1 hi)
theorem same10 {k m : Nat} {W : List UInt8} {ms : List Bool} (h1 : 1 ≤ k) (h2 : k + m ≤ 256) (hW : CodeW k m (co W)) (hWl : W.length = k + m) (hml : ms.length = k + m) (hf : cnt (hb ms) (k + m) ≤ m) : wdX k m W ms = 0 ∧ wdR k m W ms = W ∧ wdP k m W ms = [] := by
  have hn : ∀ i, wrB [] ms i = false := fun i => by unfold wrB; rw [co_nil]; simp
  obtain ⟨e1, e2, e3⟩ := back10 (y := []) h1 h2 hW hWl hWl hml (fun i _ => by rw [co_nil, x_zero]) (by rw [cnt_none fun i _ => hn i]; omega)
  exact ⟨e1, e2, e3.trans (plc_none fun i _ => hn i)⟩
theorem many10 {k m : Nat} {W : List UInt8} {ms : List Bool} (h1 : 1 ≤ k) (h2 : k + m ≤ 256) (hWl : W.length = k + m) (hml : ms.length = k + m) (hf : m < cnt (hb ms) (k + m)) : wdX k m W ms = 100 ∧ wdR k m W ms = [] ∧ wdP k m W ms = [] := by
  have okc : OkC (k : Int) (m : Int) := ⟨by omega, by omega, by omega⟩
  refine wd_many okc ⟨by omega, by omega⟩ ?_
  rintro ⟨c, hc⟩
  have := hc.few
  omega
theorem hb_false (s i : Nat) : hb ((List.range s).map (fun _ => false)) i = false := by
  by_cases h : i < s
  · simp [hb, List.getD, h]
  · exact hb_ge (by simp; omega)
theorem not_cnt {ms : List Bool} {n : Nat} (h : ms.length = n) : cnt (hb (notM ms)) n + cnt (hb ms) n = n := by
  rw [cnt_congr (q := fun i => !hb ms i) fun i hi => notM_at (by omega)]
  exact cnt_not _ _
theorem dec10 {k m : Nat} {W : List UInt8} {ms : List Bool} (h1 : 1 ≤ k) (h2 : k + m ≤ 256) (hW : CodeW k m (co W)) (hWl : W.length = k + m) (hml : ms.length = k + m) (hf : cnt (hb ms) (k + m) ≤ m) :
    decX k m (notM ms) (colL W) = 0 ∧ lineL (decR k m (notM ms) (colL W)) = W ∧ (decR k m (notM ms) (colL W)).length = k + m ∧ ∀ i, i < (decR k m (notM ms) (colL W)).length → (ro (decR k m (notM ms) (colL W)) i).length = 1 := by
  have hl : (notM ms).length = k + m := by rw [notM_length, hml]
  have hk : k ≤ (thr (notM ms) (notM ms).length).length := by
    rw [thr_cnt, hl]
    have := not_cnt hml
    omega
  obtain ⟨e1, e2, e3, e4⟩ := try_dec h1 h2 hl hWl hk
  refine ⟨e1, e2.trans ?_, e3, e4⟩
  refine co_ext (by rw [try_len h1 hl hWl hk, hWl]) fun i hi => ?_
  rw [try_len h1 hl hWl hk] at hi
  exact try_is h1 h2 hl hWl hk hW (fun _ _ => rfl) hi
theorem dec10_few {k m : Nat} {W : List UInt8} {ms : List Bool} (h1 : 1 ≤ k) (h2 : k + m ≤ 256) (hWl : W.length = k + m) (hml : ms.length = k + m) (hf : m < cnt (hb ms) (k + m)) : decX k m (notM ms) (colL W) = 70 ∧ decR k m (notM ms) (colL W) = [] := by
  have hl : (notM ms).length = k + m := by rw [notM_length, hml]
  refine decX_few ⟨by omega, by omega, by omega⟩ ⟨by omega, by rw [colL_length]; omega, fun i j hi hj => ?_⟩ ?_
  · have h3 := hb_lt hi
    have h4 := hb_lt hj
    rw [colL_row (by omega), colL_row (by omega)]; rfl
  · rw [thr_cnt, hl]
    have := not_cnt hml
    omega

end Go.Proofs.Ytchfonofjbpmaaa.Gf

/-
  PLAIN MATHEMATICS: what 'ErrdecStripes' asks: a stripe's shards, some of which are others, put right place by place. No program is named here.
-/

namespace Go.Proofs.Ytchfonofjbpmaaa.Gf
set_option linter.unusedVariables false
set_option linter.unusedSimpArgs false

theorem col_code {k m n t : Nat} {D : List (List UInt8)} (h1 : 1 ≤ k) (h2 : k + m ≤ 256) (hD : D.length = k) (hE : Even D) (hn : (ro D 0).length = n) (ht : t < n) : CodeW k m (fun i => co (ro (encL m k (parF k) D) i) t) := by
  intro l hl
  refine par_syn h2 (fun i hi => ?_) hl
  show co (ro (encL m k (parF k) D) (k + i)) t = _
  rw [enc_row_ge' (by omega) (by omega), show k + i - D.length = i by omega]
  unfold parR
  rw [co_upto_in (by rw [hn]; exact ht)]
  unfold wd
  exact S_congr fun j hj => by rw [enc_row_lt (by omega)]
/-- a shard as it is handed in -/
def mdS (A : List (List UInt8)) (hs bd : List Bool) (y : UInt8) (n i : Nat) : List UInt8 :=
  if hb hs i = false then [y] else if hb bd i = true ∧ 0 < n then (ro A i).set (i % n) (co (ro A i) (i % n) ^^^ y) else ro A i
/-- those that are wrong -/
def wrS (hs bd : List Bool) (n i : Nat) : Bool := hb hs i && (hb bd i && decide (0 < n))
/-- the first r of them -/
def mdL (A : List (List UInt8)) (hs bd : List Bool) (y : UInt8) (n s r : Nat) : List (List UInt8) := mkL s (fun i => if i < r then mdS A hs bd y n i else ro A i)
theorem mdL_length (A : List (List UInt8)) (hs bd : List Bool) (y : UInt8) (n s r : Nat) : (mdL A hs bd y n s r).length = s := mkL_length _ _
theorem mdL_zero {A : List (List UInt8)} {hs bd : List Bool} {y : UInt8} {n s : Nat} (h : A.length = s) : mdL A hs bd y n s 0 = A := by
  unfold mdL
  rw [mkL_congr (g := ro A) fun i _ => if_neg (Nat.not_lt_zero _), ← h, mkL_ro]
theorem mdL_old {A : List (List UInt8)} {hs bd : List Bool} {y : UInt8} {n s r : Nat} (h : r < s) : ro (mdL A hs bd y n s r) r = ro A r := by unfold mdL; rw [ro_mkL h, if_neg (Nat.lt_irrefl _)]
theorem mdL_step {A : List (List UInt8)} {hs bd : List Bool} {y : UInt8} {n s r : Nat} (h : r < s) {p : List UInt8} (hp : p = mdS A hs bd y n r) : (mdL A hs bd y n s r).set r p = mdL A hs bd y n s (r + 1) := by
  refine ro_ext (by rw [List.length_set, mdL_length, mdL_length]) fun i hi => ?_
  rw [List.length_set, mdL_length] at hi
  rw [ro_set (by rw [mdL_length]; exact h)]
  unfold mdL
  rw [ro_mkL hi, ro_mkL hi]
  by_cases e : i = r
  · rw [if_pos e, e, if_pos (by omega), hp]
  · rw [if_neg e]
    by_cases q : i < r
    · rw [if_pos q, if_pos (by omega)]
    · rw [if_neg q, if_neg (by omega)]
theorem mdL_keep {A : List (List UInt8)} {hs bd : List Bool} {y : UInt8} {n s r : Nat} (h : r < s) (hp : mdS A hs bd y n r = ro A r) : mdL A hs bd y n s (r + 1) = mdL A hs bd y n s r := by
  rw [← mdL_step h hp.symm]
  have e : ro A r = ro (mdL A hs bd y n s r) r := (mdL_old h).symm
  rw [e]
  refine ro_ext (by rw [List.length_set]) fun i hi => ?_
  rw [List.length_set] at hi
  rw [ro_set (by rw [mdL_length]; exact h)]
  split
  · rename_i q; rw [q]
  · rfl
theorem mdL_all {A : List (List UInt8)} {hs bd : List Bool} {y : UInt8} {n s : Nat} : mdL A hs bd y n s s = mkL s (mdS A hs bd y n) := mkL_congr fun i hi => if_pos hi
theorem mds_len {A : List (List UInt8)} {hs bd : List Bool} {y : UInt8} {n i : Nat} (hA : (ro A i).length = n) (h : hb hs i = true) : (mdS A hs bd y n i).length = n := by
  unfold mdS
  rw [if_neg (by rw [h]; decide)]
  split
  · rw [List.length_set]; exact hA
  · exact hA
theorem mds_co {A : List (List UInt8)} {hs bd : List Bool} {y : UInt8} {n i t : Nat} (hA : (ro A i).length = n) (h : hb hs i = true) (ht : t < n) : co (mdS A hs bd y n i) t = if wrS hs bd n i = true ∧ t = i % n then co (ro A i) t ^^^ y else co (ro A i) t := by
  unfold mdS wrS
  rw [if_neg (by rw [h]; decide), h, Bool.true_and]
  have hn : 0 < n := by omega
  by_cases q : hb bd i = true
  · rw [if_pos ⟨q, hn⟩, co_at (by rw [hA]; exact Nat.mod_lt _ hn)]
    by_cases e : t = i % n
    · rw [if_pos e, if_pos ⟨by simp [q, hn], e⟩, e]
    · rw [if_neg e, if_neg fun z => e z.2]
  · rw [if_neg fun z => q z.1, if_neg fun z => q (by simpa [hn] using z.1)]
theorem stripes10 {k m n : Nat} {D : List (List UInt8)} {hs bd : List Bool} {y : UInt8} (h1 : 1 ≤ k) (h2 : k + m ≤ 256) (hD : D.length = k) (hE : Even D) (hn : (ro D 0).length = n) (hhs : hs.length = k + m) (hy : y ≠ 0)
    (hex : cnt (fun i => !hb hs i) (k + m) ≠ k + m) (hf : 2 * cnt (wrS hs bd n) (k + m) + cnt (fun i => !hb hs i) (k + m) ≤ m) :
    shX k m hs (mkL (k + m) (mdS (encL m k (parF k) D) hs bd y n)) = 0 ∧ shR k m hs (mkL (k + m) (mdS (encL m k (parF k) D) hs bd y n)) = encL m k (parF k) D ∧ shP k m hs (mkL (k + m) (mdS (encL m k (parF k) D) hs bd y n)) = plc (wrS hs bd n) (k + m) := by
  have okc : OkC (k : Int) (m : Int) := ⟨by omega, by omega, by omega⟩
  obtain ⟨A, hA⟩ : ∃ A, A = encL m k (parF k) D := ⟨_, rfl⟩
  obtain ⟨M, hM⟩ : ∃ M, M = mkL (k + m) (mdS A hs bd y n) := ⟨_, rfl⟩
  have hAl : A.length = k + m := by rw [hA, encL_length, hD]
  have hAr : ∀ i, i < k + m → (ro A i).length = n := fun i hi => by rw [hA, enc_len hE (by omega), hn]
  have hMl : M.length = k + m := by rw [hM, mkL_length]
  have hMr : ∀ i, i < k + m → ro M i = mdS A hs bd y n i := fun i hi => by rw [hM, ro_mkL hi]
  have hin : ∀ i, hb hs i = true → i < k + m := fun i hi => by rw [← hhs]; exact hb_in hi
  have hone : oneX hs M = (n : Int) := by
    refine oneX_ok ?_ fun i hi => by rw [hMr i (hin i hi)]; exact mds_len (hAr i (hin i hi)) hi
    refine Classical.byContradiction fun q => hex ?_
    have e : ∀ i, i < k + m → hb hs i = false := fun i _ => by
      cases e9 : hb hs i
      · rfl
      · exact absurd ⟨i, e9⟩ q
    have h9 := cnt_not (hb hs) (k + m)
    rw [cnt_none e] at h9
    omega
  have hz : ∀ t i, t < n → i < k + m → co (wdAt hs M (k + m) t) i = if hb hs i then (if wrS hs bd n i = true ∧ t = i % n then co (ro A i) t ^^^ y else co (ro A i) t) else 0 := fun t i ht hi => by
    unfold wdAt
    rw [co_upto_in hi]
    unfold atF
    cases e : hb hs i
    · rfl
    · rw [if_pos rfl, if_pos rfl, hMr i hi, mds_co (hAr i hi) e ht]
  have hw : ∀ t i, t < n → i < k + m → wrg (co (wdAt hs M (k + m) t)) (fun i => co (ro A i) t) (hb (notM hs)) i = (wrS hs bd n i && decide (t = i % n)) := fun t i ht hi => by
    unfold wrg
    rw [notM_at (by omega), hz t i ht hi]
    cases e : hb hs i
    · simp [wrS, e]
    · rw [if_pos rfl]
      by_cases q : wrS hs bd n i = true ∧ t = i % n
      · rw [if_pos q, q.1, decide_eq_true q.2]
        have : co (ro A i) t ≠ co (ro A i) t ^^^ y := fun e9 => hy (by
          have e2 := congrArg (fun x => co (ro A i) t ^^^ x) e9
          rw [show co (ro A i) t ^^^ co (ro A i) t = 0 from x_self _, show co (ro A i) t ^^^ (co (ro A i) t ^^^ y) = y from x_cancel _ _] at e2
          exact e2.symm)
        simp [this]
      · rw [if_neg q]
        by_cases q2 : wrS hs bd n i = true
        · have : ¬ t = i % n := fun e9 => q ⟨q2, e9⟩
          simp [this]
        · simp [q2]
  have hN : ∀ t, t < n → Near k m (co (wdAt hs M (k + m) t)) (hb (notM hs)) (fun i => co (ro A i) t) := fun t ht => by
    refine ⟨by rw [hA]; exact col_code h1 h2 hD hE hn ht, ?_⟩
    have e1 : cnt (wrg (co (wdAt hs M (k + m) t)) (fun i => co (ro A i) t) (hb (notM hs))) (k + m) ≤ cnt (wrS hs bd n) (k + m) := cnt_mono fun i hi q => by
      rw [hw t i ht hi] at q
      simp at q
      exact q.1
    have e2 : cnt (hb (notM hs)) (k + m) = cnt (fun i => !hb hs i) (k + m) := cnt_congr fun i hi => notM_at (by omega)
    omega
  have hP : ∀ t, t < n → pX k m hs M t = 0 ∧ pR k m hs M t = upto (fun i => co (ro A i) t) (k + m) ∧ pP k m hs M t = plc (fun i => wrS hs bd n i && decide (t = i % n)) (k + m) := fun t ht => by
    obtain ⟨e1, e2, e3⟩ := wd_ok (z := wdAt hs M (k + m) t) (ms := notM hs) okc ⟨by rw [wdAt_length]; omega, by rw [notM_length]; omega⟩ (hN t ht)
    refine ⟨e1, e2, e3.trans ?_⟩
    unfold plc
    exact List.filter_congr fun i hi => hw t i ht (List.mem_range.1 hi)
  obtain ⟨e1, e2, e3⟩ := sh_ok okc hhs hMl hone fun t ht => (hP t ht).1
  rw [← hA, ← hM]
  refine ⟨e1, e2.trans ?_, e3.trans ?_⟩
  · refine ro_ext (by rw [rowsP_length, hAl]) fun i hi => ?_
    rw [rowsP_length] at hi
    rw [rowsP_ro hi]
    refine co_ext (by rw [upto_length, hAr i hi]) fun t ht => ?_
    rw [upto_length] at ht
    rw [co_upto_in ht, (hP t ht).2.1, co_upto_in hi]
  · have hu : ∀ r, r ≤ n → ∀ i, i < k + m → (hurtP k m hs M r i = true ↔ wrS hs bd n i = true ∧ i % n < r) := by
      intro r
      induction r with
      | zero => intro _ i _; exact ⟨fun q => (by cases q), fun q => absurd q.2 (Nat.not_lt_zero _)⟩
      | succ r ih =>
        intro hr i hi
        show mrkF (hurtP k m hs M r) (pP k m hs M r) i = true ↔ _
        unfold mrkF
        rw [(hP r (by omega)).2.2, Bool.or_eq_true, decide_eq_true_eq, plc_mem, ih (by omega) i hi]
        constructor
        · rintro (⟨a, b⟩ | ⟨_, b⟩)
          · exact ⟨a, by omega⟩
          · simp at b; exact ⟨b.1, by omega⟩
        · rintro ⟨a, b⟩
          by_cases q : i % n = r
          · right; exact ⟨hi, by simp [a, q]⟩
          · left; exact ⟨a, by omega⟩
    unfold plc
    refine List.filter_congr fun i hi => ?_
    have hi' := List.mem_range.1 hi
    rw [Bool.eq_iff_iff, hu n (Nat.le_refl _) i hi']
    constructor
    · exact fun q => q.1
    · intro q
      refine ⟨q, Nat.mod_lt _ ?_⟩
      unfold wrS at q
      simp at q
      exact q.2.2

end Go.Proofs.Ytchfonofjbpmaaa.Gf

/-
  SHARDS OF THE CALL's OWN AND A ROW OF PLACES BESIDE THEM: a byte is stored, a place is appended. No program's function is named here.
-/

namespace Go.Proofs.Ytchfonofjbpmaaa.Gf
set_option linter.unusedVariables false
set_option linter.unusedSimpArgs false
open Go.RowKit

/-- where a byte of a shard lies, and what a store there leaves -/
theorem OsP.byte {w : World} {base T u : Nat} {v : Value} {L : List (List UInt8)} {P : Nat → Prop} (h : OsP w base T u v L P) {i n : Nat} (hi : i < L.length) (hn : n < (ro L i).length) :
    ∃ G C g c, v = .slice (some ⟨G, 0, none⟩) L.length C ∧ w.cell? ⟨G, i, none⟩ = some (.slice (some ⟨g, 0, none⟩) (ro L i).length c) ∧ w.cell? ⟨g, n, none⟩ = some (.int .u8 ((co (ro L i) n).toNat : Nat)) ∧ w.frozen? ⟨g, n, none⟩ = false ∧ base ≤ g ∧ g ≠ G ∧ (∀ q, P q → q ≠ g) ∧
      ∀ y : UInt8, OsP (w.setCell ⟨g, n, none⟩ (.int .u8 ((y.toNat : Nat) : Int))) base T u v (setL L i n y) P := by
  obtain ⟨vals, hv, hr, hp⟩ := h
  have hlen : vals.length = L.length := by have := hv.1; omega
  have hx : vals[i]? = some vals[i] := List.getElem?_eq_getElem (by omega)
  obtain ⟨g, c, ex, hF⟩ := RowF.of (hr.own i _ hx) (by omega)
  have hG : ∃ G C, v = .slice (some ⟨G, 0, none⟩) L.length C := by
    obtain ⟨_, ⟨e, hn⟩ | ⟨G, cap, cur, e, _⟩⟩ := hv
    · omega
    · exact ⟨G, cap, e⟩
  obtain ⟨G, C, rfl⟩ := hG
  have hgG : g ≠ G := by
    have := hr.out i _ hx
    rw [ex] at this
    rcases this with e | e
    · simp [Value.ownBlock] at e
    · intro e2; subst e2; exact e rfl
  refine ⟨G, C, g, c, rfl, by rw [World.ownsRow.cellAt hv i (by omega), hx, ex], hF.cell hn, hF.unfrozen n, hF.lt.1, hgG, fun q hq e => (hp q hq).2 i _ hx (by rw [ex, e]; rfl), fun y => ?_⟩
  have h1 := hF.store (f' := fun t => if t = n then y else co (ro L i) t) hn y (fun t => rfl)
  have hg := grown_set w g n (.int .u8 ((y.toNat : Nat) : Int))
  refine ⟨vals, ?_, ⟨fun j x hj => ?_, hr.diff, hr.out⟩, hp⟩
  · rw [setL_length]
    exact World.ownsRow.kept hv hg (Or.inr (by simp [Value.ownBlock]; exact fun e => hgG e.symm))
  · unfold setL
    rw [ro_set hi]
    by_cases e : j = i
    · subst e
      rw [if_pos rfl]
      have e2 : x = vals[j] := by rw [hx] at hj; cases hj; rfl
      subst e2
      rw [ex]
      unfold OwnP
      have e3 : (ro L j).set n y = upto (fun t => if t = n then y else co (ro L j) t) (ro L j).length := by
        refine co_ext (by rw [upto_length]; simp) fun t ht => ?_
        rw [co_at hn, upto, co_map_range _ (by simpa using ht)]
      rw [e3, upto_length]
      exact h1
    · rw [if_neg e]
      refine OwnP.kept (hr.own j x hj) hg ?_
      have := hr.diff j i x _ hj hx e
      rw [ex] at this
      exact this
theorem os_form {w : World} {base T u : Nat} {v : Value} {L : List (List UInt8)} (h : Os w base T u v L) (h0 : 0 < L.length) : ∃ G C, v = .slice (some ⟨G, 0, none⟩) L.length C := by
  obtain ⟨vals, hv, _⟩ := h
  obtain ⟨_, ⟨e, hn⟩ | ⟨G, cap, cur, e, _⟩⟩ := hv
  · omega
  · exact ⟨G, cap, e⟩
theorem ne_block {o : Value} {g : Nat} (h : ∀ q, o.ownBlock = some q → q ≠ g) : o.ownBlock = none ∨ o.ownBlock ≠ some g := by
  cases e : o.ownBlock with
  | none => exact Or.inl rfl
  | some q => exact Or.inr fun e2 => h q e (by cases e2; rfl)
/-- the shards, where another row grows that they keep off -/
theorem OsP.grown {w w' : World} {base T u : Nat} {v o o' : Value} {L : List (List UInt8)} {ob : Obj} (h : OsP w base T u v L (fun q => o.ownBlock = some q)) (hg : (w.alloc ob).grownBy w' o.ownBlock) (hb : o'.ownBlock = o.ownBlock ∨ o'.ownBlock = some (w.alloc ob).heap.size) : OsP w' base T u v L (fun q => o'.ownBlock = some q) := by
  obtain ⟨vals, hv, hr, hp⟩ := h
  have off : ∀ x : Value, (∀ q, o.ownBlock = some q → x.ownBlock ≠ some q) → x.ownBlock = none ∨ x.ownBlock ≠ o.ownBlock := fun x hx => by
    cases e : x.ownBlock with
    | none => exact Or.inl rfl
    | some q => exact Or.inr fun e2 => hx q e2.symm e
  refine ⟨vals, World.ownsRow.kept (World.ownsRow.alloc hv ob) hg (off v fun q hq => (hp q hq).1), ⟨fun i x hx => World.ownsRow.kept (World.ownsRow.alloc (hr.own i x hx) ob) hg (off x fun q hq => (hp q hq).2 i x hx), hr.diff, hr.out⟩, fun q hq => ?_⟩
  rcases hb with e | e
  · exact hp q (by rw [← e]; exact hq)
  · rw [e] at hq
    cases hq
    refine ⟨fun e2 => ?_, fun i x hx e2 => ?_⟩
    · have := World.ownsRow.lt hv _ e2; simp at this; omega
    · have := (hr.own i x hx).lt e2; simp at this; omega
/-- 'append(s, x)' on places of the call's own, x laid as a list of one: and where they lie then -/
theorem wpList_append_int2 {P : Program} {wr : World} {ops : Array Oper} {rest : List Oper} {o : Oper} {a : Act} {Q : Exit → Act → World → Prop} (hgd : o.guard = none) (s xo : Operand) (t : TypeId)
    (ho : o.op = .call { callee := .builtin .append, args := #[s, xo], argTypes := #[t, t] })
    (base e : Nat) (i : TypeInfo) (ht : P.underlying t = some (.slice e)) (hi : P.info? e = some i) (hz : i.zero = some (.int .i64 0)) (hsize : i.size = 1) (hby : i.bytes = 8)
    (v : Value) (zs : List Nat) (hs : a.eval s = v) (hO : OwnI wr base e v zs) (z : Nat) (et c : Nat) (hxo : a.eval xo = .slice (some ⟨wr.heap.size, 0, none⟩) 1 c) (hl : zs.length ≤ 100000) (hbase : base ≤ wr.heap.size)
    (h : ∀ v' w2, OwnI w2 base e v' (zs ++ [z]) → (wr.alloc (.cells #[.int .i64 (z : Int)] et)).grownBy w2 v.ownBlock → (v'.ownBlock = v.ownBlock ∨ v'.ownBlock = some (wr.alloc (.cells #[.int .i64 (z : Int)] et)).heap.size) → wpList P ops Q rest (a.put o.dst v') w2) : wpList P ops Q (o :: rest) a (wr.alloc (.cells #[.int .i64 (z : Int)] et)) := by
  refine wpList_plain hgd fun K hK => ?_
  obtain ⟨v', w', hrun, h2, h3, _, h5⟩ := run_append_own_at (P := P) (wr.alloc (.cells #[.int .i64 (z : Int)] et)) base t o.type e i (.int .i64 0) 1 8 ht hi hz hsize hby rfl (by decide) v zs.length (zs.map vi) (World.ownsRow.alloc hO _) ⟨wr.heap.size, 0, none⟩ 1 c [vi z] rfl (by intro j y hj; rw [add_at, Nat.zero_add]; rcases j with _ | j <;> simp at hj; subst hj; simp [vi]) (by intro y hy; simp at hy; rw [hy]; rfl) (by unfold maxLen; omega) (by omega) (by simp; omega)
  unfold Oper.wp execOp
  simp only [ho, resolve, invoke, builtin, Sem.run_bind, Sem.run_pure, Result.andThen_ok, List.map_toArray, List.map_cons, List.map_nil, hs, hxo, hrun]
  refine hK _ _ (h v' w' ?_ h3 h5)
  unfold OwnI
  rw [List.length_append, List.map_append]
  exact h2
/-- a literal of one byte is a row of one's own -/
theorem lit_own {w : World} {base u b : Nat} {y : UInt8} (hb : base ≤ w.heap.size) (h : b = w.heap.size) : OwnP (w.alloc (.cells #[.int .u8 ((y.toNat : Nat) : Int)] u)) base u (.slice (some ⟨b, 0, none⟩) 1 1) [y] := by
  subst h
  exact ⟨rfl, .inr ⟨w.heap.size, 1, #[.int .u8 ((y.toNat : Nat) : Int)], rfl, hb, heap_alloc_new w _, Nat.le_refl _, by decide, rfl, rfl⟩⟩

end Go.Proofs.Ytchfonofjbpmaaa.Gf

/-
  THE PROGRAM's 'made' BY CONTRACT: a matrix whose rows are filled by a function value, whichever it is.
-/

namespace Go.Proofs.Ytchfonofjbpmaaa.Gf
set_option linter.unusedVariables false
set_option linter.unusedSimpArgs false
open Go.RowKit

/-- the first r rows of a matrix, noughts behind them -/
def upR (G : Mx) (r : Nat) : Mx := fun i j => if i < r then G i j else 0
theorem upR_zero (G : Mx) (c t : Nat) : pl c (upR G 0) t = 0 := by
  show upR G 0 (t / c) (t % c) = 0
  unfold upR
  rw [if_neg (Nat.not_lt_zero _)]
theorem upR_all (G : Mx) {r c : Nat} : ∀ t, t < r * c → pl c (upR G r) t = pl c G t := pl_congr fun i j hi _ => if_pos hi

set_option maxRecDepth 100000 in
set_option maxHeartbeats 2000000 in
theorem made_any {F : Nat} {p q : Value} (r c : Nat) (w : World) (hr : r ≤ 256) (hc : c ≤ 256) (hc0 : 0 < c) (G : Mx) (eg : Hid (∀ (args : Array Value) (w : World), Sem.run Try.prog (callFunc F args) w = .ok (.enter F args) w))
    (hfill : Hid (∀ (g m i o : Nat) (W : World), i < r → Hid (m = r * c) → Hid (o = i * c) → w.heap.size ≤ g → Below w.heap.size w W → RowF W w.heap.size 5 g m m (pl c (upR G i)) →
      Calls Try.prog F #[.int .i64 (i : Int), .slice (some ⟨g, o, none⟩) c (m - o), p, q] W fun e w' => e = .returned (.tuple #[]) ∧ Turn g W w' ∧ RowF w' w.heap.size 5 g m m (pl c (upR G (i + 1)))))
    {x y : Int} (hx : x = (r : Int)) (hy : y = (c : Int)) :
    Calls Try.prog 72 #[.int .i64 x, .int .i64 y, .func (.func F) #[] #[p, q]] w fun e w' => ∃ g m, e = .returned (.agg #[.int .i64 (r : Int), .int .i64 (c : Int), .slice (some ⟨g, 0, none⟩) m m]) ∧ w.heap.size ≤ g ∧ Rd w' (.slice (some ⟨g, 0, none⟩) m m) (flat r c G) ∧ Below w.heap.size w w' := by
  subst hx hy
  obtain ⟨i0, hi, hz0, hz1, hz2⟩ := info_parts info_u8
  have hmm : r * c ≤ 256 * 256 := Nat.mul_le_mul hr hc
  obtain ⟨m, hm⟩ : ∃ m, Hid (m = r * c) := ⟨_, rfl⟩
  rw [← hm.out] at hmm
  have g0 : (r : Int) * (c : Int) = (m : Int) := by rw [hm.out]; exact_mod_cast rfl
  go_enter Try.func72, Try.ntmps72
  go_wp2_with (at_make; go_loud (refine wpList_make_full _ rfl (.tmp 13) (.tmp 13) 22 rfl w.heap.size 5 i0 (.int .u8 0) 1 Try.underlying22 hi hz0 hz1 _ _ _ _ m rfl rfl (by omega) (by omega) (by rw [hz2]; omega) (by unfold maxLen; omega) (by simp) ?_); intro w1 hown1 hgrow1; obtain ⟨R1, B0, x0, x1, x2, z0, z1, z2⟩ := nought_facts hown1 hgrow1; clear hown1 hgrow1)
  have hg0 : w.heap.size < w.heap.size + 1 := by omega
  generalize hgg : w.heap.size + 1 = g at *
  have X3 : Box w1 w.heap.size 0 0 (.slice none 0 0) := ⟨x0, x1, x2⟩
  have F3 : Free w1 w.heap.size := ⟨z0, z1, z2⟩
  have hA : Below w1.heap.size w1 (w1.alloc (.cells #[.int .i64 (r : Int), .int .i64 (c : Int), .slice (some ⟨g, 0, none⟩) m m] 74)) := (Below.refl _ _).alloc (Nat.le_refl _) _
  have P1 := Box.new w1 (r : Int) (c : Int) (.slice (some ⟨g, 0, none⟩) m m) 74
  have hlt := R1.lt
  replace R1 := R1.later hA
  replace X3 := X3.below (by omega) hA
  replace F3 := F3.below (by omega) hA
  replace B0 := Below.next B0 hA
  have hms : w1.heap.size < (w1.alloc (.cells #[.int .i64 (r : Int), .int .i64 (c : Int), .slice (some ⟨g, 0, none⟩) m m] 74)).heap.size := by simp
  have hmg : w1.heap.size ≠ g := by omega
  clear hA x0 x1 x2 z0 z1 z2
  generalize w1.alloc (.cells #[.int .i64 (r : Int), .int .i64 (c : Int), .slice (some ⟨g, 0, none⟩) m m] 74) = w2 at *
  go_loopw [17] (fun i wr => ∃ k : Nat, k ≤ r ∧ i = .int .i64 k ∧ Turn g w2 wr ∧ RowF wr w.heap.size 5 g m m (pl c (upR G k))) (fun i _ => r - (intOf i).toNat)
  case atStart => exact ⟨0, by omega, rfl, Turn.refl _ _, R1.congr (fun t _ => (upR_zero _ _ t).symm)⟩
  case round =>
    obtain ⟨k, hk, rfl, hT, hRk⟩ := hrel
    clear R1
    replace P1 := P1.turn hms hmg hT
    have hs2 := hT.size
    by_cases hlt2 : k < r
    · have hlt2' : (k : Int) < (r : Int) := by omega
      obtain ⟨o, ho⟩ : ∃ o, Hid (o = k * c) := ⟨_, rfl⟩
      have hom : o + c ≤ m := by rw [ho.out, hm.out, ← Nat.succ_mul]; exact Nat.mul_le_mul_right c hlt2
      have g1 : (k : Int) * (c : Int) = (o : Int) := by rw [ho.out]; exact_mod_cast rfl
      have g2 : ((k : Int) + 1) * (c : Int) = (o : Int) + (c : Int) := by rw [Int.add_mul, Int.one_mul, g1]
      have v1 : IntKind.i64.wrap (o : Int) = (o : Int) := by rw [IntKind.wrap_i64]; omega
      have v2 : IntKind.i64.wrap ((o : Int) + (c : Int)) = (o : Int) + (c : Int) := by rw [IntKind.wrap_i64]; omega
      have v3 : IntKind.i64.wrap ((k : Int) + 1) = (k : Int) + 1 := by rw [IntKind.wrap_i64]; omega
      have hlt3 : o < m := by omega
      have hne : ¬ m = o := by omega
      have hsub : o + c - o = c := by omega
      have y2 := P1.c2
      have HB : Hid (Below w.heap.size w wr) := B0.trans (hT.below (by omega) (by omega))
      have HC := hfill.out g m k o wr hlt2 hm ho (by omega) HB.out hRk
      clear hfill hRk
      go_wp2_with fail
      rw [eg.out, Oper.upon_enter]
      refine HC.mono ?_
      rintro e v4 ⟨rfl, hT4, hR4⟩
      have HT : Hid (Turn g w2 v4) := hT.trans hT4
      have HN : Hid (RowF v4 w.heap.size 5 g m m (pl c (upR G (k + 1)))) := hR4
      clear hT hT4 hR4 y2 P1 HC HB
      go_wp2
      go_roundw
      case rel => exact ⟨k + 1, by omega, by go_num, HT.out, HN.out⟩
      case measure => simp [intOf]; omega
    · have e : k = r := by omega
      subst e
      have R4 : Rd wr (.slice (some ⟨g, 0, none⟩) m m) (flat k c G) := by
        have := (hRk.congr (f' := pl c G) (by rw [hm.out]; exact upR_all G)).rd
        rw [← pl_flat, ← hm.out]
        exact this
      have X4 := X3.turn (by omega) (by omega) hT
      have F4 := F3.turn (by omega) (by omega) hT
      have x30 := X4.c0
      have x31 := X4.c1
      have x32 := X4.c2
      have f30 := F4.f0
      have f31 := F4.f1
      have f32 := F4.f2
      have y0 := P1.c0
      have y1 := P1.c1
      have y2 := P1.c2
      clear hRk hfill
      go_wp2
      have O1 : Only w.heap.size wr (((wr.setCell ⟨w.heap.size, 0, none⟩ (.int .i64 (k : Int))).setCell ⟨w.heap.size, 1, none⟩ (.int .i64 (c : Int))).setCell ⟨w.heap.size, 2, none⟩ (.slice (some ⟨g, 0, none⟩) m m)) :=
        (((Only.refl _ _).setCell 0 _).setCell 1 _).setCell 2 _
      refine bodyPost_ret (v := .agg #[.int .i64 (k : Int), .int .i64 (c : Int), .slice (some ⟨g, 0, none⟩) m m]) (by simp [results, Try.results72, go_sem, x30, x31, x32, f30, f31, f32]) rfl ⟨g, m, rfl, by omega, R4.only (apart_block (by omega)) O1, (B0.trans (hT.below (by omega) (by omega))).trans (O1.below (by omega))⟩

end Go.Proofs.Ytchfonofjbpmaaa.Gf

/-
  THE PROGRAM's 'Parity' BY CONTRACT.
-/


namespace Go.Proofs.Ytchfonofjbpmaaa.Gf
set_option linter.unusedVariables false
set_option linter.unusedSimpArgs false
open Go.RowKit

/-- one row more -/
theorem upR_row {G : Mx} {r c i : Nat} {f : Nat → UInt8} (h1 : ∀ t, t < r * c → t / c ≠ i → f t = pl c (upR G i) t) (h2 : ∀ j, j < c → f (i * c + j) = G i j) : ∀ t, t < r * c → f t = pl c (upR G (i + 1)) t := by
  intro t ht
  have hc : 0 < c := by
    rcases Nat.eq_zero_or_pos c with e | e
    · rw [e, Nat.mul_zero] at ht; omega
    · exact e
  by_cases e : t / c = i
  · have h3 := Nat.div_add_mod t c
    rw [e, Nat.mul_comm] at h3
    show f t = upR G (i + 1) (t / c) (t % c)
    unfold upR
    rw [if_pos (by omega), e, ← h2 _ (Nat.mod_lt _ hc), h3]
  · rw [h1 t ht e]
    show upR G i (t / c) (t % c) = upR G (i + 1) (t / c) (t % c)
    unfold upR
    by_cases h : t / c < i
    · rw [if_pos h, if_pos (by omega)]
    · rw [if_neg h, if_neg (by omega)]
theorem in_row {c i j : Nat} (hj : j < c) : (i * c + j) / c = i := place_div hj
theorem not_in_row {c i t o : Nat} (ho : o = i * c) (hc : 0 < c) (h : t / c ≠ i) {n : Nat} (hn : n ≤ c) : t < o ∨ o + n ≤ t := by
  by_cases h1 : i * c ≤ t ∧ t < i * c + c
  · exact absurd ((row_iff hc).1 h1) h
  · omega
theorem upR_at {G : Mx} {c i j : Nat} (hj : j < c) : pl c (upR G i) (i * c + j) = 0 := by
  rw [pl_at _ hj]; exact if_neg (by omega)

/-- What fills a parity shard's row: its captured variables. -/
structure Fills (w : World) (b k kb fb : Nat) : Prop where
  ck : w.cell? ⟨kb, 0, none⟩ = some (.int .i64 (k : Int))
  cf : w.cell? ⟨fb, 0, none⟩ = some (.pointer (some ⟨b, 0, none⟩))
  lk : kb < w.heap.size
  lf : fb < w.heap.size
theorem Fills.below {w w' : World} {b k kb fb : Nat} (h : Fills w b k kb fb) (o : Below w.heap.size w w') : Fills w' b k kb fb :=
  ⟨(o.cell (p := ⟨kb, 0, none⟩) h.lk).trans h.ck, (o.cell (p := ⟨fb, 0, none⟩) h.lf).trans h.cf, Nat.lt_of_lt_of_le h.lk o.size, Nat.lt_of_lt_of_le h.lf o.size⟩

theorem enters_prow1 : Hid (∀ (args : Array Value) (w : World), Sem.run Try.prog (callFunc 99 args) w = .ok (.enter 99 args) w) := enters_of Try.func99 (by kernel_rfl) rfl

set_option maxRecDepth 100000 in
set_option maxHeartbeats 1000000 in
theorem prow_make {b : Nat} (k : Nat) (w : World) {x : Int} (hx : x = (k : Int)) : Calls Try.prog 71 #[.pointer (some ⟨b, 0, none⟩), .int .i64 x] w fun e w' => ∃ kb fb, e = .returned (.func (.func 99) #[] #[.pointer (some ⟨kb, 0, none⟩), .pointer (some ⟨fb, 0, none⟩)]) ∧ Fills w' b k kb fb ∧ Below w.heap.size w w' := by
  subst hx
  go_enter Try.func71, Try.ntmps71
  go_wp2
  go_ret
  refine ⟨_, _, rfl, ⟨by simp, by simp, by simp <;> omega, by simp <;> omega⟩, by repeat (first | exact Below.refl _ _ | apply below_lit)⟩

set_option maxRecDepth 100000 in
set_option maxHeartbeats 1000000 in
theorem cpar_bad {b : Nat} {k m : Int} {w : World} (hF : FieldAt w b) (h : ¬ OkC k m) : Calls Try.prog 65 #[.pointer (some ⟨b, 0, none⟩), .int .i64 k, .int .i64 m] w (MakesErr w 50) := by
  go_enter Try.func65, Try.ntmps65
  go_wp2_with fail
  refine (ccf_bad _ h).mono ?_
  rintro e w2 ⟨rfl, rfl⟩
  clear h
  go_wp2
  refine bodyPost_ret (v := .tuple #[.agg #[.int .i64 0, .int .i64 0, .slice none 0 0], .int .i64 50]) (by simp [results, Try.results65, go_sem]) rfl ⟨_, rfl, rd_none, by repeat (first | exact Below.refl _ _ | apply below_lit | refine Below.setCell ?_ (Nat.le_refl _) _)⟩

set_option maxRecDepth 100000 in
set_option maxHeartbeats 2000000 in
theorem cpar_at {b : Nat} {w : World} (k m : Nat) (hF : FieldAt w b) (h1 : 1 ≤ k) (h2 : k + m ≤ 256) {x y : Int} (hx : x = (k : Int)) (hy : y = (m : Int)) :
    Calls Try.prog 65 #[.pointer (some ⟨b, 0, none⟩), .int .i64 x, .int .i64 y] w (fun e w' => ∃ g M, e = .returned (.tuple #[.agg #[.int .i64 (m : Int), .int .i64 (k : Int), .slice (some ⟨g, 0, none⟩) M M], .int .i64 0]) ∧ w.heap.size ≤ g ∧ Rd w' (.slice (some ⟨g, 0, none⟩) M M) (flat m k (parF k)) ∧ Below w.heap.size w w') := by
  subst hx hy
  go_enter Try.func65, Try.ntmps65
  go_wp2_with fail
  refine (ccf_ok _ (okC_mk h1 h2)).mono ?_
  rintro e w2 ⟨rfl, rfl⟩
  go_wp2_with fail
  refine (prow_make k _ rfl).mono ?_
  rintro e w1 ⟨kb, fb, rfl, hfl, b1⟩
  have X3 : Box w1 w.heap.size 0 0 (.slice none 0 0) := Below.box b1 (by simp <;> omega) (Box.new w 0 0 (.slice none 0 0) 74)
  have F3 : Free w1 w.heap.size := Below.free b1 (by simp <;> omega) (Free.new w #[.int .i64 0, .int .i64 0, .slice none 0 0] 74)
  have B1 : Below w.heap.size w w1 := Below.next (by repeat (first | exact Below.refl _ _ | apply below_lit)) b1
  have hF1 := hF.below B1
  have hs1 : w.heap.size < w1.heap.size := by have := b1.size; simp at this; omega
  clear b1
  go_wp2_with fail
  refine (made_any m k w1 (by omega) (by omega) h1 (parF k) enters_prow1 ?_ rfl rfl).mono ?_
  · intro g M i o W hi hM ho hg hB R
    have hf2 := hfl.below hB
    refine (prow_fill (i := i) (n := k) (hF1.below hB) (by have := hF1.lt; omega) hf2.ck (by have := hfl.lk; omega) hf2.cf (by have := hfl.lf; omega) (by omega) (Nat.le_refl _) (by omega) (by rw [ho.out, hM.out, ← Nat.succ_mul]; exact Nat.mul_le_mul_right k hi) R rfl).mono ?_
    rintro e w' ⟨rfl, hO, hR⟩
    refine ⟨rfl, hO.turn, hR.congr ?_⟩
    rw [hM.out]
    refine upR_row (fun t ht hne => putAt_out (not_in_row ho.out (by omega) hne (Nat.le_refl _))) (fun j hj => ?_)
    rw [ho.out]; exact putAt_in hj
  · rintro e w4 ⟨g, M, rfl, hg, hR, b4⟩
    have X4 := X3.below hs1 b4
    have F4 := F3.below hs1 b4
    have B4 : Below w.heap.size w w4 := Below.next B1 b4
    have x30 := X4.c0
    have x31 := X4.c1
    have x32 := X4.c2
    have f30 := F4.f0
    have f31 := F4.f1
    have f32 := F4.f2
    go_wp2
    have O1 : Only w.heap.size w4 (((w4.setCell ⟨w.heap.size, 0, none⟩ (.int .i64 (m : Int))).setCell ⟨w.heap.size, 1, none⟩ (.int .i64 (k : Int))).setCell ⟨w.heap.size, 2, none⟩ (.slice (some ⟨g, 0, none⟩) M M)) :=
      (((Only.refl _ _).setCell 0 _).setCell 1 _).setCell 2 _
    refine bodyPost_ret (v := .tuple #[.agg #[.int .i64 (m : Int), .int .i64 (k : Int), .slice (some ⟨g, 0, none⟩) M M], .int .i64 0]) (by simp [results, Try.results65, go_sem, x30, x31, x32, f30, f31, f32]) rfl ⟨g, M, rfl, by omega, hR.only (apart_block (by omega)) O1, B4.trans (O1.below (by omega))⟩
theorem cpar_ok {b : Nat} {w : World} (k m : Nat) (hF : FieldAt w b) (h1 : 1 ≤ k) (h2 : k + m ≤ 256) {x y : Int} (hx : x = (k : Int)) (hy : y = (m : Int)) :
    Calls Try.prog 65 #[.pointer (some ⟨b, 0, none⟩), .int .i64 x, .int .i64 y] w (MakesM w m k (parF k)) :=
  (cpar_at k m hF h1 h2 hx hy).mono fun e w' ⟨g, M, h, _, hr, hb⟩ => ⟨_, h, hr, hb⟩

end Go.Proofs.Ytchfonofjbpmaaa.Gf

/-
  THE PROGRAM's 'copied' AND 'adding' BY CONTRACT, and the closure that 'adding' makes.
-/



namespace Go.Proofs.Ytchfonofjbpmaaa.Gf
set_option linter.unusedVariables false
set_option linter.unusedSimpArgs false
open Go.RowKit

/-- a row and a multiple of a shard, for the first k places -/
def addR (f : Nat → UInt8) (a : UInt8) (q : List UInt8) (k : Nat) (t : Nat) : UInt8 := if t < k then f t ^^^ mu a (co q t) else f t
theorem addR_zero (f : Nat → UInt8) (a : UInt8) (q : List UInt8) : addR f a q 0 = f := by funext t; exact if_neg (by omega)
theorem addR_step (f : Nat → UInt8) (a : UInt8) (q : List UInt8) (k t : Nat) : addR f a q (k + 1) t = if t = k then f k ^^^ mu a (co q k) else addR f a q k t := by
  unfold addR
  by_cases e : t = k
  · subst e; rw [if_pos (by omega), if_pos rfl]
  · rw [if_neg e]
    by_cases h : t < k
    · rw [if_pos h, if_pos (by omega)]
    · rw [if_neg h, if_neg (by omega)]

set_option maxRecDepth 100000 in
set_option maxHeartbeats 2000000 in
/-- what adds a shard, times a number, to a row: fb its captured variable -/
theorem add1_any {w : World} {base u g n c b fb : Nat} {f : Nat → UInt8} {vq : Value} {q : List UInt8} (a : UInt8) (hF : FieldAt w b) (hbg : b ≠ g) (cf : w.cell? ⟨fb, 0, none⟩ = some (.pointer (some ⟨b, 0, none⟩))) (hfg : fb ≠ g) (hfl : fb < w.heap.size)
    (hR : RowF w base u g n c f) (hq : Rd w vq q) (hap : Apart g vq) (hn : q.length = n) (hL : n ≤ 1000000) {y : Int} (hy : y = ((a.toNat : Nat) : Int)) :
    Calls Try.prog 98 #[.slice (some ⟨g, 0, none⟩) n c, .int .u8 y, vq, .pointer (some ⟨fb, 0, none⟩)] w fun e w' => e = .returned (.tuple #[]) ∧ Only g w w' ∧ RowF w' base u g n c (addR f a q n) := by
  subst hy
  obtain ⟨qa, qc, rfl⟩ := hq.form
  rw [hn]
  go_enter Try.func98, Try.ntmps98
  go_wp2
  go_loopw [11] (fun i wr => ∃ k : Nat, k ≤ n ∧ i = .int .i64 k ∧ Only g w wr ∧ RowF wr base u g n c (addR f a q k)) (fun i _ => n - (intOf i).toNat)
  case atStart => exact ⟨0, by omega, rfl, Only.refl _ _, by rw [addR_zero]; exact hR⟩
  case round =>
    obtain ⟨k, hk, rfl, hO, hRk⟩ := hrel
    by_cases hlt : k < n
    · have hq2 := hq.only hap hO
      rw [hn] at hq2
      obtain ⟨qb, qo, rfl, _, ct⟩ := hq2.byte (i := k) (by omega)
      have c1 := hRk.cell hlt
      have f1 := hRk.unfrozen k
      have cf2 := (hO.cell (p := ⟨fb, 0, none⟩) hfg).trans cf
      have e1 : addR f a q k k = f k := if_neg (by omega)
      rw [e1] at c1
      have E := xor_u8 (f k) (mu a (co q k))
      have HN : Hid (RowF (wr.setCell ⟨g, k, none⟩ (.int .u8 (((f k).toNat ^^^ (mu a (co q k)).toNat : Nat) : Int))) base u g n c (addR f a q (k + 1))) := by
        rw [← UInt8.toNat_xor]
        exact hRk.store hlt _ fun s => addR_step _ _ _ _ _
      have HO : Hid (Only g w (wr.setCell ⟨g, k, none⟩ (.int .u8 (((f k).toNat ^^^ (mu a (co q k)).toNat : Nat) : Int)))) := hO.setCell k _
      have hFr := hF.only hbg hO
      have hlt' : (k : Int) < (n : Int) := by omega
      clear hRk hO hR e1 hq hap hn hq2 hF cf
      go_wp2
      go_region_with ((go_at_call 45; refine (fmu_quiet (hFr.drewN _) a (co q k) rfl rfl).mono ?_; rintro e w' ⟨rfl, d, rfl⟩))
      all_goals go_wp2
      all_goals
        go_roundw
        case rel => exact ⟨k + 1, by omega, by go_num, HO.out.drewN _, HN.out.drewN _⟩
        case measure => simp [intOf]; omega
    · have e : k = n := by omega
      subst e
      have hge : ¬ (k : Int) < (k : Int) := by omega
      clear hq
      go_wp2
      go_end0
      exact ⟨rfl, hO, hRk⟩

set_option maxRecDepth 100000 in
set_option maxHeartbeats 1000000 in
theorem add0_any {b : Nat} (w : World) : Calls Try.prog 68 #[.pointer (some ⟨b, 0, none⟩)] w fun e w' => ∃ fb, e = .returned (.func (.func 98) #[] #[.pointer (some ⟨fb, 0, none⟩)]) ∧ w'.cell? ⟨fb, 0, none⟩ = some (.pointer (some ⟨b, 0, none⟩)) ∧ w.heap.size ≤ fb ∧ fb < w'.heap.size ∧ Below w.heap.size w w' := by
  go_enter Try.func68, Try.ntmps68
  go_wp2
  go_ret
  exact ⟨_, rfl, by simp, by omega, by simp, (Below.refl _ _).alloc (Nat.le_refl _) _⟩

/-- 'copy' into a row of the call's own -/
theorem run_copy_rd {P : Program} {w : World} (dT sT ty : TypeId) (elem : TypeId) (hu : P.underlying dT = some (.slice elem)) (hsz : (P.info? elem).map (·.size) = some 1)
    {g off n dl dCap : Nat} {va : Value} {p : List UInt8} {base e L : Nat} {f : Nat → UInt8} (hr : Rd w va p) (hn : p.length = n) (hdl : n ≤ dl) (hR : RowF w base e g L L f) (hl : off + n ≤ L) :
    ∃ w', Sem.run P (Builtin.copy_ #[dT, sT] ty #[.slice (some ⟨g, off, none⟩) dl dCap, va]) w = .ok (goInt n) w' ∧ Only g w w' ∧ RowF w' base e g L L (putAt f off n (co p)) := by
  subst hn
  obtain ⟨hg, hm⟩ := hR.heap rfl
  have hlt := hR.lt
  rcases hr with ⟨ao, cap, rfl, rfl, _⟩ | ⟨b, so, cap, hp0, rfl, h1, h2, h3, hpc⟩
  · have hrun := run_copy_none (P := P) w dT sT ty elem (some ⟨g, off, none⟩) ao dl dCap 0 cap hu hsz (Nat.zero_min _)
    exact ⟨w, hrun, Only.refl _ _, by rw [List.length_nil, putAt_zero]; exact hR⟩
  · have hrun := run_copy_row (P := P) w dT sT ty elem g off dl dCap ⟨b, so, none⟩ p.length cap ((upto f L).map vb).toArray e (p.map vb) hu hsz hg (by rw [List.length_map]; exact (Nat.min_eq_left hdl).symm) (by have := news_of (k := p.length) hpc; rwa [List.take_length] at this) (by simp [upto_length]; exact hl) (vb_one p)
    refine ⟨_, by simpa using hrun, only_setRow _ _ _, RowF.of_heap hlt.1 hm ?_⟩
    rw [← splice_upto hl]
    simpa [splice] using setRow_heap w g _ _ e _ hg

set_option maxRecDepth 100000 in
set_option maxHeartbeats 1000000 in
theorem cop_any {v : Value} {p : List UInt8} {w : World} (hp : Rd w v p) (hl : p.length ≤ 100000) : Calls Try.prog 67 #[v] w fun e w' => ∃ g, e = .returned (.slice (some ⟨g, 0, none⟩) p.length p.length) ∧ w.heap.size ≤ g ∧ RowF w' w.heap.size 5 g p.length p.length (co p) ∧ Below w.heap.size w w' := by
  obtain ⟨i0, hi, hz0, hz1, hz2⟩ := info_parts info_u8
  obtain ⟨qa, qc, rfl⟩ := hp.form
  obtain ⟨n, hn⟩ : ∃ n, Hid (n = p.length) := ⟨_, rfl⟩
  rw [← hn.out] at hl hp ⊢
  go_enter Try.func67, Try.ntmps67
  go_wp2_with (at_make; go_loud (refine wpList_make_full _ rfl (.tmp 5) (.tmp 5) 22 rfl w.heap.size 5 i0 (.int .u8 0) 1 Try.underlying22 hi hz0 hz1 _ _ _ _ n rfl rfl (by omega) (by omega) (by rw [hz2]; omega) (by unfold maxLen; omega) (by simp) ?_); intro w1 hown1 hgrow1; have R1 := RowF.made hown1; clear hown1)
  have b1 : Below w.heap.size w w1 := (Below.refl _ _).grown hgrow1 (Nat.le_refl _) (fun k hk => by cases hk)
  clear hgrow1
  have hg1 := R1.lt
  generalize hgg : w.heap.size = g at *
  obtain ⟨w2, hrun, hO, hR⟩ := run_copy_rd (P := Try.prog) 22 22 3 5 Try.underlying22 (by rw [hi]; simp [hz1]) (hp.below (by rw [hgg]; exact b1)) hn.out.symm (Nat.le_refl n) R1 (off := 0) (dCap := n) (by omega)
  rw [hrun]
  have HR : Hid (RowF w2 g 5 g n n (co p)) := hR.congr fun t ht => by unfold putAt; rw [if_pos (by omega), Nat.sub_zero]
  have HO : Hid (Only g w1 w2) := hO
  clear hR hO R1 hp hrun
  go_wp2
  go_ret
  subst hgg
  exact ⟨_, rfl, Nat.le_refl _, HR.out, b1.trans (HO.out.below (Nat.le_refl _))⟩

end Go.Proofs.Ytchfonofjbpmaaa.Gf

