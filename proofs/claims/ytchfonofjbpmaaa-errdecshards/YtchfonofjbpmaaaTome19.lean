/- TEXTS JOINED: ErRefE, WdRefC, WdRefW. -/
import Derived.Test.YtchfonofjbpmaaaTome18
import Derived.Test.YtchfonofjbpmaaaTome14
import Derived.Deep.RegionWith
import Derived.Test.YtchfonofjbpmaaaTome8
import Derived.Test.YtchfonofjbpmaaaTome7
import Derived.Test.YtchfonofjbpmaaaTome15
/-
  THE DOCUMENT's ANSWER FOR LAYER 7 (package aumbryref07) BY CONTRACT: 'Decode', where shards enough are there.
-/

namespace Go.Proofs.Ytchfonofjbpmaaa.Gf
set_option linter.unusedVariables false
set_option linter.unusedSimpArgs false
open Go.RowKit

set_option maxRecDepth 100000 in
set_option maxHeartbeats 8000000 in
theorem rdec_ok {k m : Nat} {va vl : Value} {h : List Bool} {L : List (List UInt8)} {w : World} (h1 : 1 ≤ k) (h2 : k + m ≤ 256) (hH : RdB w va h) (hL : Rs w vl L) (hok : OkH k m h L) (hS : SmallH h L) (hf : k ≤ (thr h h.length).length) {x y : Int} (hx : x = (k : Int)) (hy : y = (m : Int)) :
    Calls Try.prog 62 #[.int .i64 x, .int .i64 y, va, vl] w (MakesRs w 0 (encL m k (parF k) (decD k (invF k (pl7 h)) (pl7 h) L))) := by
  subst hx hy
  obtain ⟨i0, hi, hz0, hz1, hz2⟩ := info_parts info_u8
  obtain ⟨i1, hj, hy0, hy1, hy2⟩ := info_parts info_shard
  obtain ⟨a1, c1, rfl⟩ := hH.form
  obtain ⟨a2, c2, rfl⟩ := hL.form
  obtain ⟨s, hs⟩ : ∃ s, Hid (s = k + m) := ⟨_, rfl⟩
  have g1 : (k : Int) + (m : Int) = (s : Int) := by have := hs.out; omega
  have gw : IntKind.i64.wrap (s : Int) = (s : Int) := by have := hs.out; rw [IntKind.wrap_i64]; omega
  have gk : IntKind.i64.wrap (k : Int) = (k : Int) := by rw [IntKind.wrap_i64]; omega
  have p1 : Hid (h.length = s) := by show _ = _; have := hok.1; omega
  have p2 : Hid (L.length = s) := by show _ = _; have := hok.2.1; omega
  have E : Hid (EvenH h L) := hok.2.2
  have q0 : ((s : Int) != (s : Int)) = false := by simp
  have hs3 : Hid (s ≤ 256) := by rw [hs.out]; exact h2
  have hf' : Hid _ := hf
  have hin : Hid (∀ i, i < k → pl7 h i < s) := fun i hi => by have := (pl7_in (h := h) (i := i) (by omega)).1; rw [p1.out] at this; exact this
  have hth : Hid (∀ i, i < k → hb h (pl7 h i) = true) := fun i hi => (pl7_in (by omega)).2
  have hns : Hid (¬ IsSing k (rowsF k (pl7 h))) := gen_inv h2 (by rw [p1.out, hs.out]) hf
  have hZ : Hid ((toI (pls7 h k)).length = k) := by show _ = _; rw [toI_length]; exact pls7_length hf
  have hall : Hid (AllIn s (toI (pls7 h k))) := fun i hi => by
    rw [hZ.out] at hi
    have := hin.out i hi
    rw [toI_getD, pls7_getD hi]
    omega
  obtain ⟨n0, hn0⟩ : ∃ n0, Hid (n0 = (ro L (pl7 h 0)).length) := ⟨_, rfl⟩
  have hn3 : n0 ≤ 300 := by rw [hn0.out]; exact hS.2 _ (hth.out 0 (by omega))
  have hlen : Hid (∀ i, i < k → (ro L (pl7 h i)).length = n0) := fun i hi => by rw [hn0.out]; exact E.out _ _ (hth.out i hi) (hth.out 0 (by omega))
  clear hok hS hf
  rw [p1.out] at hH ⊢
  rw [p2.out] at hL ⊢
  go_enter Try.func62, Try.ntmps62
  go_wp2_with fail
  refine (rgen_ok (k := k) (m := m) _ h1 h2 rfl rfl).mono ?_
  rintro e w2 ⟨vs, rfl, hR, b2⟩
  obtain ⟨sa, sc, rfl⟩ := hR.form
  obtain ⟨N, hN⟩ : ∃ N, Hid (N = (flat (k + m) k (genF k)).length) := ⟨_, rfl⟩
  rw [← hN.out] at hR ⊢
  rw [show ((k + m : Nat) : Int) = (s : Int) by rw [hs.out]]
  have A2 : Below w2.heap.size w2 (w2.alloc (.cells #[.int .i64 (s : Int), .int .i64 (k : Int), .slice sa N sc] 74)) := (Below.refl _ _).alloc (Nat.le_refl _) _
  have B2 : Below w.heap.size w (w2.alloc (.cells #[.int .i64 (s : Int), .int .i64 (k : Int), .slice sa N sc] 74)) := below_lit b2 _
  have X2 := Box.new w2 (s : Int) (k : Int) (.slice sa N sc) 74
  have l2 : w2.heap.size < (w2.alloc (.cells #[.int .i64 (s : Int), .int .i64 (k : Int), .slice sa N sc] 74)).heap.size := by simp
  have hH2 := hH.below B2
  have hL2 := hL.below B2
  have hR2 := hR.below A2
  clear hR b2 hH hL A2
  go_wp2_with fail
  refine (rthere_any hH2 hL2 (by rw [p1.out, p2.out]) (by rw [p1.out]; have := hs3.out; omega)).mono ?_
  rintro e w4 (⟨_, v4, rfl, hO4, b4⟩ | ⟨he, _⟩)
  rotate_left
  · exact absurd E.out he
  generalize w2.alloc (.cells #[.int .i64 (s : Int), .int .i64 (k : Int), .slice sa N sc] 74) = w3 at *
  have B4 := Below.next B2 b4
  have hL4 := hL2.below b4
  have hR4 := hR2.below b4
  have X4 := X2.below l2 b4
  have l4 : w2.heap.size < w4.heap.size := Nat.lt_of_lt_of_le l2 b4.size
  obtain ⟨pa, pc, rfl⟩ := hO4.form
  have hcap := hO4.cap
  obtain ⟨g, rfl, hg, _, _⟩ := hO4.cell (i := 0) (by have := hf'.out; omega)
  have hP4 := (hO4.rd (by have := thr_len h h.length; rw [p1.out] at this; have := hs3.out; rw [p1.out]; omega)).first (k := k) hf'.out (by omega)
  rw [show (thr h h.length).take k = pls7 h k from rfl] at hP4
  have hge : ¬ (((thr h h.length).length : Nat) : Int) < (k : Int) := by have := hf'.out; omega
  have hkc : (k : Int) ≤ (pc : Int) := by have := hf'.out; omega
  have hkc' : k ≤ pc := by omega
  have hpm := hcap.2
  unfold maxLen at hpm
  generalize (thr h h.length).length = n7 at *
  have x40 := X4.c0
  have x41 := X4.c1
  have x42 := X4.c2
  have k1 : OkM (s : Int) (k : Int) (flat (k + m) k (genF k)) := okM_mk hs3.out (by omega) (by rw [flat_length, hs.out])
  clear hO4 hH2 hL2 hR2 B2 b4 X2 l2 hcap
  go_wp2_with fail
  refine (rpick_ok (r := s) (c := k) (zs := toI (pls7 h k)) ⟨_, rfl, hR4⟩ hP4 k1 (by rw [hZ.out]; omega)).mono ?_
  rintro e w5 (⟨_, vp, rfl, hP, b5⟩ | ⟨hno, _⟩)
  rotate_left
  · exact absurd hall.out hno
  rw [hZ.out] at hP ⊢
  have B5 := Below.next B4 b5
  have hL5 := hL4.below b5
  have hP5 := hP4.below b5
  obtain ⟨qa, qc, rfl⟩ := hP.form
  obtain ⟨M, hM⟩ : ∃ M, Hid (M = (flat k k (pickF k (flat (k + m) k (genF k)) (toI (pls7 h k)))).length) := ⟨_, rfl⟩
  rw [← hM.out] at hP ⊢
  have A5 : Below w5.heap.size w5 (w5.alloc (.cells #[.int .i64 (k : Int), .int .i64 (k : Int), .slice qa M qc] 74)) := (Below.refl _ _).alloc (Nat.le_refl _) _
  have B6 : Below w.heap.size w (w5.alloc (.cells #[.int .i64 (k : Int), .int .i64 (k : Int), .slice qa M qc] 74)) := below_lit B5 _
  have hL6 := hL5.below A5
  have hP6 := hP5.below A5
  have hQ6 := hP.below A5
  have kk : OkM (k : Int) (k : Int) (flat k k (pickF k (flat (k + m) k (genF k)) (toI (pls7 h k)))) := okM_mk (by omega) (by omega) (by rw [flat_length])
  clear hL4 hP4 hR4 B4 b5 hL5 hP5 hP A5 B5 X4 l4 x40 x41 x42 k1
  go_wp2_with fail
  refine (rinvm_ok (n := k) ⟨_, rfl, hQ6⟩ kk).mono ?_
  have cong : Hid (∀ i j, i < k → j < k → en k (flat k k (pickF k (flat (k + m) k (genF k)) (toI (pls7 h k)))) i j = rowsF k (pl7 h) i j) := fun i j hi hj => by
    rw [en_flat _ hi hj]; exact pick_gen hi hj (by rw [← hs.out]; exact hin.out i hi)
  rintro e w7 (⟨V, hV, vi7, rfl, hR7, b7⟩ | ⟨hsg, _⟩)
  rotate_left
  · exact absurd (hsg.congr cong.out) hns.out
  have hV' : Hid (IsInv k (rowsF k (pl7 h)) V) := hV.congr cong.out (fun _ _ _ _ => rfl)
  rw [invF_flat hV'.out] at hR7
  clear hV hV' cong kk hQ6 hns hall
  obtain ⟨W, hW⟩ : ∃ W, Hid (W = invF k (pl7 h)) := ⟨_, rfl⟩
  rw [← hW.out] at hR7 ⊢
  generalize w5.alloc (.cells #[.int .i64 (k : Int), .int .i64 (k : Int), .slice qa M qc] 74) = w6 at *
  have B7 := Below.next B6 b7
  have hL7 := hL6.below b7
  have hP7 := hP6.below b7
  obtain ⟨ia, ic, rfl⟩ := hR7.form
  obtain ⟨I, hI⟩ : ∃ I, Hid (I = (flat k k W).length) := ⟨_, rfl⟩
  have hIk : Hid (I = k * k) := by show _ = _; rw [hI.out, flat_length]
  rw [← hI.out] at hR7 ⊢
  have A7 : Below w7.heap.size w7 (w7.alloc (.cells #[.int .i64 (k : Int), .int .i64 (k : Int), .slice ia I ic] 74)) := (Below.refl _ _).alloc (Nat.le_refl _) _
  have B8 : Below w.heap.size w (w7.alloc (.cells #[.int .i64 (k : Int), .int .i64 (k : Int), .slice ia I ic] 74)) := below_lit B7 _
  have X8 := Box.new w7 (k : Int) (k : Int) (.slice ia I ic) 74
  have l8 : w7.heap.size < (w7.alloc (.cells #[.int .i64 (k : Int), .int .i64 (k : Int), .slice ia I ic] 74)).heap.size := by simp
  have hL8 := hL7.below A7
  have hP8 := hP7.below A7
  have hR8 := hR7.below A7
  clear hL6 hP6 B6 b7 hL7 hP7 hR7 A7 B7
  go_wp2
  generalize w7.alloc (.cells #[.int .i64 (k : Int), .int .i64 (k : Int), .slice ia I ic] 74) = w8 at *
  obtain ⟨B, hBB⟩ : ∃ B, Hid (B = w8.heap.size) := ⟨_, rfl⟩
  have hto : ∀ {W' : World}, Below B w8 W' → Below w8.heap.size w8 W' := fun q => by rw [← hBB.out]; exact q
  have HX : Hid (∀ wr, Below B w8 wr → wr.cell? ⟨w7.heap.size, 2, none⟩ = some (.slice ia I ic)) := fun wr hb => (X8.below l8 (hto hb)).c2
  have HP : Hid (∀ wr, Below B w8 wr → ∀ i, i < k → wr.cell? ⟨g, i, none⟩ = some (.int .i64 ((pl7 h i : Nat) : Int))) := fun wr hb i hi => by
    have := (hP8.below (hto hb)).get (i := i) (by rw [hZ.out]; exact hi)
    rwa [toI_getD, pls7_getD hi, Nat.zero_add] at this
  have HA : Hid (∀ wr, Below B w8 wr → Rd wr (.slice ia I ic) (flat k k W)) := fun wr hb => hR8.below (hto hb)
  obtain ⟨db, doff, dc, eL, hdb, hdc, hdm⟩ := hL8.somewhere (by rw [p2.out]; omega)
  simp at eL
  obtain ⟨eL, _, _⟩ := eL
  subst eL
  have HD : Hid (∀ wr, Below B w8 wr → ∀ i, i < k → ∃ xa xc, wr.cell? ⟨db, doff + pl7 h i, none⟩ = some (.slice xa n0 xc) ∧ Rd wr (.slice xa n0 xc) (ro L (pl7 h i))) := fun wr hb i hi => by
    obtain ⟨xa, xc, q1, q2⟩ := (hL8.below (hto hb)).get (i := pl7 h i) (by rw [p2.out]; exact hin.out i hi)
    rw [hlen.out i hi] at q1 q2
    exact ⟨xa, xc, q1, q2⟩
  have hsB : Hid (w.heap.size ≤ B) := by rw [hBB.out]; exact B8.size
  have HB8 : Hid _ := B8
  clear X8 hL8 hP8 hR8 B8 hto
  go_loopw [18, 19] (fun o i wr => ∃ r : Nat, r ≤ k ∧ i = .int .i64 (r : Int) ∧ Os wr B 22 5 o (mkL r (dsh k W (pl7 h) L)) ∧ Below B w8 wr) (fun _ i _ => k - (intOf i).toNat)
  case atStart => exact ⟨0, by omega, rfl, Os.nil _ _ _ _, Below.refl _ _⟩
  case round =>
    obtain ⟨r, hr, rfl, hO, hB⟩ := hrel
    obtain ⟨wo, hwo⟩ : ∃ wo, wo = wr := ⟨_, rfl⟩
    subst hwo
    have hszr : B ≤ wo.heap.size := by rw [hBB.out]; exact hB.size
    by_cases hlt : r < k
    · have hlt' : (r : Int) < (k : Int) := by omega
      obtain ⟨av, cv, ev⟩ := hO.form
      rw [mkL_length] at ev
      subst ev
      have hO' : Hid _ := hO
      have hB' : Hid _ := hB
      clear hO hB
      go_wp2
      go_loopw [20, 21] (fun q i w9 => ∃ t : Nat, t ≤ n0 ∧ i = .int .i64 (t : Int) ∧ w9.ownsRow wo.heap.size 5 1 q t ((upto (dwd W (pl7 h) L r k) t).map vb) ∧ Below wo.heap.size wo w9) (fun _ i _ => n0 - (intOf i).toNat)
      case atStart => exact ⟨0, by omega, rfl, World.ownsRow_nil _ _ _ _, Below.refl _ _⟩
      case round =>
        obtain ⟨t, ht, rfl, hsO, b9⟩ := hrel
        obtain ⟨w9, hw9⟩ : ∃ w9, w9 = wr := ⟨_, rfl⟩
        subst hw9
        have hB9 : Below B w8 w9 := hB'.out.trans (b9.mono hszr)
        have hs9 : wo.heap.size ≤ w9.heap.size := b9.size
        obtain ⟨ya, yc, c0, _⟩ := HD.out _ hB9 0 (by omega)
        have cp0 := HP.out _ hB9 0 (by omega)
        have hi0 := hin.out 0 (by omega)
        obtain ⟨t0, ht0⟩ : ∃ t0, Hid (t0 = pl7 h 0) := ⟨_, rfl⟩
        rw [← ht0.out] at c0 cp0 hi0
        have hi0' : (t0 : Int) < (s : Int) := by omega
        have h0k : (0 : Int) < (k : Int) := by omega
        obtain ⟨ra, rc, es⟩ := owns_form hsO
        subst es
        by_cases hlt3 : t < n0
        · have hlt3' : (t : Int) < (n0 : Int) := by omega
          have hs' : Hid _ := hsO
          have b9' : Hid _ := b9
          have hB9' : Hid _ := hB9
          clear hsO b9 hB9
          go_wp2
          go_loopw [22, 23] (fun xx i wr => ∃ c : Nat, c ≤ k ∧ i = .int .i64 (c : Int) ∧ xx = .int .u8 ((dwd W (pl7 h) L r c t).toNat : Nat) ∧ ∃ nd, wr = w9.drewN nd) (fun _ i _ => k - (intOf i).toNat)
          case atStart => exact ⟨0, by omega, rfl, rfl, 0, rfl⟩
          case round =>
            obtain ⟨c, hc, rfl, rfl, nd, hd0⟩ := hrel
            by_cases hlt4 : c < k
            · have hlt4' : (c : Int) < (k : Int) := by omega
              have hBw : Below B w8 wr := by rw [hd0]; exact hB9'.out.drewN nd
              have hd : Hid (wr = w9.drewN nd) := hd0
              have x2 := HX.out _ hBw
              have cpc := HP.out _ hBw c hlt4
              obtain ⟨za, zc, cz, rz⟩ := HD.out _ hBw c hlt4
              have hic := hin.out c hlt4
              obtain ⟨zb, zo, ez, _, dz⟩ := rz.byte (i := t) (by rw [hlen.out c hlt4]; exact hlt3)
              subst ez
              obtain ⟨T, hT⟩ : ∃ T, Hid (T = r * k + c) := ⟨_, rfl⟩
              have hTN : T < I := by rw [hT.out, hIk.out]; exact place_lt hlt hlt4
              have hNs : I ≤ 65536 := by rw [hIk.out]; exact mul_small (by omega) (by omega)
              obtain ⟨o', ho'⟩ : ∃ o', Hid (o' = r * k) := ⟨_, rfl⟩
              have hoT : o' + c = T := by rw [ho'.out, hT.out]
              have v0 : (r : Int) * (k : Int) = (o' : Int) := by rw [ho'.out]; exact_mod_cast rfl
              have v3 : (o' : Int) + (c : Int) = (T : Int) := by omega
              have v1 : IntKind.i64.wrap (o' : Int) = (o' : Int) := by rw [IntKind.wrap_i64]; omega
              have v2 : IntKind.i64.wrap (T : Int) = (T : Int) := by rw [IntKind.wrap_i64]; omega
              obtain ⟨ab, ao, eva, hab, ca⟩ := (HA.out _ hBw).byte (i := T) (by rw [flat_length, ← hIk.out]; exact hTN)
              have eT : co (flat k k W) T = W r c := by rw [hT.out]; exact en_flat W hlt hlt4
              rw [eT] at ca
              subst eva
              have hTN' : (T : Int) < (I : Int) := by omega
              have E1 := xor_u8 (dwd W (pl7 h) L r c t) (mu (W r c) (co (ro L (pl7 h c)) t))
              have HE : Hid (((dwd W (pl7 h) L r c t).toNat ^^^ (mu (W r c) (co (ro L (pl7 h c)) t)).toNat : Nat) = (dwd W (pl7 h) L r (c + 1) t).toNat) := by show _ = _; rw [dwd_succ, UInt8.toNat_xor]
              obtain ⟨tc, htc⟩ : ∃ tc, Hid (tc = pl7 h c) := ⟨_, rfl⟩
              rw [← htc.out] at cpc cz hic
              have hic' : (tc : Int) < (s : Int) := by omega
              clear hd0 hoT eT rz hBw c0 cp0
              go_wp2
              go_quiet ((go_at_call 96; go_loud (exact Calls.quiet_of_same (rmu6_at (W r c) (co (ro L (pl7 h c)) t) rfl rfl))))
              go_wp2
              go_roundw
              case rel => exact ⟨c + 1, by omega, by go_num, by rw [HE.out], _, by show _ = _; rw [hd.out, World.drewN_drewN]⟩
              case measure => simp [intOf]; omega
            · have hge4 : ¬ (c : Int) < (k : Int) := by omega
              have ec : c = k := by omega
              subst ec
              have hs10 : wr.ownsRow wo.heap.size 5 1 (.slice ra t rc) t ((upto (dwd W (pl7 h) L r c) t).map vb) := by rw [hd0]; exact hs'.out
              have B10 : Hid (Below wo.heap.size wo wr) := by show Below _ _ _; rw [hd0]; exact b9'.out.drewN nd
              have hs10' : wo.heap.size ≤ wr.heap.size := B10.out.size
              clear hd0 hs' b9' hB9' c0 cp0
              go_wp2_with (at_builtin; go_loud (refine wpList_append_rd2 _ rfl (.tmp 119) (.tmp 121) 22 rfl wo.heap.size 5 i0 Try.underlying22 hi hz0 hz1 hz2 (.slice ra t rc) t _ rfl (World.ownsRow.alloc hs10 _) _ [dwd W (pl7 h) L r c t] rfl (rd_lit (n := 1) [dwd W (pl7 h) L r c t] rfl rfl (by decide)) (by simp; omega) (by simp; omega) ?_); intro x' w10 hx10 hg10 hb10)
              have HN : Hid (w10.ownsRow wo.heap.size 5 1 x' (t + 1) ((upto (dwd W (pl7 h) L r c) (t + 1)).map vb)) := (by rw [upto_vb_succ]; exact hx10 : w10.ownsRow wo.heap.size 5 1 x' (t + 1) ((upto (dwd W (pl7 h) L r c) (t + 1)).map vb))
              have HB10 : Hid (Below wo.heap.size wo w10) := (B10.out.alloc hs10' _).grown hg10 (by simp; omega) (fun q hq => (World.ownsRow.lt hs10 q hq).1)
              clear hx10 hg10 hb10 hs10 B10
              go_wp2
              go_roundw
              case rel => exact ⟨t + 1, by omega, by go_num, HN.out, HB10.out⟩
              case measure => simp [intOf]; omega
        · have hge3 : ¬ (t : Int) < (n0 : Int) := by omega
          have et : t = n0 := by omega
          have hx9 : OwnP w9 B 5 (.slice ra t rc) (dsh k W (pl7 h) L r) := by
            unfold OwnP dsh
            rw [upto_length, ← hn0.out, ← et]
            exact ownsRow_base hsO hszr
          have hb1 : ∀ q, (Value.slice ra t rc).ownBlock = some q → wo.heap.size ≤ q := fun q hq => (World.ownsRow.lt hsO q hq).1
          clear hsO et
          go_wp2_with (at_builtin; go_loud (refine wpList_append_os rfl (.tmp 123) (.tmp 125) 36 rfl B 22 i1 Try.underlying36 hj hy0 hy1 hy2 5 (.slice av r cv) (mkL r (dsh k W (pl7 h) L)) rfl hO'.out b9 (.slice ra t rc) (dsh k W (pl7 h) L r) hx9 hb1 _ 1 rfl (by rw [mkL_length]; omega) hszr ?_); intro v' w11 hv11 hb11 _ _)
          have HOn : Hid (Os w11 B 22 5 v' (mkL (r + 1) (dsh k W (pl7 h) L))) := by
            show Os _ _ _ _ _ _
            rw [mkL_succ]; exact hv11
          have HBn : Hid (Below B w8 w11) := hB'.out.trans hb11
          clear hv11 hb11 hx9 hb1 hB9 b9 hO' hB' c0 cp0
          go_wp2
          go_roundw
          case rel => exact ⟨r + 1, by omega, by go_num, HOn.out, HBn.out⟩
          case measure => simp [intOf]; omega
    · have hge5 : ¬ (r : Int) < (k : Int) := by omega
      have er : r = k := by omega
      subst er
      have HR : Rs wo u18 (decD r W (pl7 h) L) := hO.rs
      have BB : Below w.heap.size w wo := Below.trans HB8.out (hB.mono hsB.out)
      obtain ⟨oa, oc, ev⟩ := HR.form
      rw [decD_length] at ev
      subst ev
      clear hO hB HX HP HA HD
      go_wp2_with fail
      refine (renc_ok h1 h2 HR (decD_length _ _ _ _) (decD_even h1) (decD_small (by omega) (by rw [← hn0.out]; exact hn3)) rfl rfl).mono ?_
      rintro e w12 ⟨v12, rfl, hR12, b12⟩
      obtain ⟨fa, fc, rfl⟩ := hR12.form
      have HBn : Hid (Below w.heap.size w w12) := Below.next BB b12
      generalize (encL m r (parF r) (decD r W (pl7 h) L)).length = oL at *
      clear b12 BB HR
      go_wp2
      exact bodyPost_ret (v := .tuple #[.slice fa oL fc, .int .i64 0]) (by simp [results, Try.results62, go_sem]) rfl ⟨_, rfl, by rw [← hW.out]; exact hR12, HBn.out⟩

theorem rdec_any {k m : Int} {va vl : Value} {h : List Bool} {L : List (List UInt8)} {w : World} (hH : RdB w va h) (hL : Rs w vl L) (hS : SmallH h L) :
    Calls Try.prog 62 #[.int .i64 k, .int .i64 m, va, vl] w (MakesRs w (decX k m h L) (decR k m h L)) := by
  rcases dec_cases k m h L with c | ⟨c, d⟩ | ⟨c, d, f⟩ | ⟨c, d, f⟩
  · rw [(decX_bad c).1, (decX_bad c).2]
    exact rdec_bad c
  · rw [(decX_shard c d).1, (decX_shard c d).2]
    obtain ⟨k, m, rfl, rfl, h1, h2⟩ := c.nat
    exact rdec_shard h1 h2 hH hL d rfl rfl
  · rw [(decX_few c d f).1, (decX_few c d f).2]
    obtain ⟨k, m, rfl, rfl, h1, h2⟩ := c.nat
    exact rdec_few h1 h2 hH hL d (by omega) rfl rfl
  · obtain ⟨k, m, rfl, rfl, h1, h2⟩ := c.nat
    rw [(decX_ok c d (by omega)).1, (decX_ok c d (by omega)).2]
    exact rdec_ok h1 h2 hH hL d hS (by omega) rfl rfl

end Go.Proofs.Ytchfonofjbpmaaa.Gf

/-
  THE DOCUMENT's ANSWER FOR LAYER 10 (package aumbryref10) BY CONTRACT: 'tried'.
-/


namespace Go.Proofs.Ytchfonofjbpmaaa.Gf
set_option linter.unusedVariables false
set_option linter.unusedSimpArgs false
open Go.RowKit

/-- how many places a tried word is wrong at -/
noncomputable def tryW (k m : Nat) (z : List UInt8) (ms : List Bool) (T : List Nat) : Nat → Bool := wrg (co z) (co (tryL k m (wth ms T) z)) (hb ms)
theorem try_dec {k m : Nat} {z : List UInt8} {hs : List Bool} (h1 : 1 ≤ k) (h2 : k + m ≤ 256) (hl : hs.length = k + m) (hz : z.length = k + m) (hk : k ≤ (thr hs hs.length).length) :
    decX k m hs (colL z) = 0 ∧ lineL (decR k m hs (colL z)) = tryL k m hs z ∧ (decR k m hs (colL z)).length = k + m ∧ ∀ i, i < (decR k m hs (colL z)).length → (ro (decR k m hs (colL z)) i).length = 1 := by
  have ok : OkC k m := ⟨by omega, by omega, by omega⟩
  have oh : OkH k m hs (colL z) := ⟨by omega, by rw [colL_length]; omega, fun i j hi hj => by
    have h3 := hb_lt hi
    have h4 := hb_lt hj
    rw [colL_row (by omega), colL_row (by omega)]; rfl⟩
  obtain ⟨e1, e2⟩ := decX_ok ok oh hk
  have hu : ∀ f : Nat → UInt8, (upto f k).length = k := fun f => upto_length _ _
  refine ⟨e1, by rw [e2]; rfl, ?_, ?_⟩
  · rw [e2, encL_length, decD_length]
  · rw [e2, encL_length, decD_length, try_col h1 hl hz hk]
    intro i hi
    exact encC_len (hu _) h1 hi

set_option maxRecDepth 100000 in
set_option maxHeartbeats 2000000 in
theorem rtried_any {vw vm vs : Value} {k m : Nat} {z : List UInt8} {ms : List Bool} {T : List Nat} {w : World} (h1 : 1 ≤ k) (h2 : k + m ≤ 256) (hz : z.length = k + m) (hms : ms.length = k + m) (hw : Rd w vw z) (hm : RdB w vm ms) (hs : RdI w vs (toI T))
    (hT : ∀ i, i < T.length → T.getD i 0 < k + m) (ht : T.length + cnt (hb ms) (k + m) ≤ m) {x y : Int} (hx : x = (k : Int)) (hy : y = (m : Int)) :
    Calls Try.prog 33 #[.int .i64 x, .int .i64 y, vw, vm, vs] w fun e w' => ∃ va vd, e = .returned (.tuple #[va, vd, .bool (decide (cnt (tryW k m z ms T) (k + m) ≤ T.length))]) ∧ Rd w' va (tryL k m (wth ms T) z) ∧ OwnI w' w.heap.size 3 vd (plc (tryW k m z ms T) (k + m)) ∧ Below w.heap.size w w' ∧ Far w.heap.size va := by
  subst hx hy
  have hth := wth_there hms ht
  have hwl : (wth ms T).length = k + m := by rw [wth_length]; exact hms
  have HD : Hid _ := try_dec h1 h2 hwl hz hth
  have hS : SmallH (wth ms T) (colL z) := (colL_small (by omega)).h _
  have HLen := try_len h1 hwl hz hth
  have hTl : T.length ≤ 300 := by omega
  have W1 := rwth_any hm hs (by rw [hms]; exact hT) (by omega) hTl
  obtain ⟨a1, c1, e1⟩ := hw.form
  obtain ⟨a2, c2, e2⟩ := hm.form
  have hsf : ∃ a c, vs = .slice a T.length c := by
    rcases hs with ⟨a, c, e, e2⟩ | ⟨b, off, c, _, e2, _⟩
    · have : T.length = 0 := by rw [← toI_length, e]; rfl
      rw [this]; exact ⟨a, c, e2⟩
    · rw [toI_length] at e2; exact ⟨_, c, e2⟩
  obtain ⟨a3, c3, e3⟩ := hsf
  subst e1 e2 e3
  go_enter Try.func33, Try.ntmps33
  have hzz : Hid _ := hz
  have hmm : Hid _ := hms
  have HL : Hid _ := HLen
  clear hz hms HLen hth hwl
  go_wp2_with fail
  refine W1.mono ?_
  rintro e u1 ⟨v1, rfl, O1, b1⟩
  clear W1
  have R1 := O1.rdB
  have hw1 := hw.below b1
  obtain ⟨g1, d1, ef⟩ := R1.form
  subst ef
  clear O1
  go_wp2_with fail
  refine (col_any hw1 (by have := hzz.out; omega)).mono ?_
  rintro e u2 ⟨v2, rfl, R2, b2⟩
  obtain ⟨g2, d2, ef⟩ := R2.form
  subst ef
  have R1' := R1.below b2
  have B2 := Below.next b1 b2
  clear R1 hw1 b1 b2
  go_wp2_with fail
  refine (rdec_any R1' R2 hS).mono ?_
  rintro e u3 ⟨v3, rfl, R3, b3⟩
  have B3 := Below.next B2 b3
  obtain ⟨g3, d3, ef⟩ := R3.form
  subst ef
  rw [HD.out.1]
  clear R1' R2 b3 B2
  go_wp2_with fail
  refine (line_far R3 (by rw [HD.out.2.2.1]; omega) HD.out.2.2.2).mono ?_
  rintro e u4 ⟨v4, rfl, R4, b4, f4⟩
  have HF4 : Hid (Far w.heap.size v4) := f4.mono B3.size
  clear f4
  rw [HD.out.2.1] at R4
  have B4 := Below.next B3 b4
  obtain ⟨g4, d4, ef⟩ := R4.form
  subst ef
  have hw4 := hw.below B4
  have hm4 := hm.below B4
  clear R3 b4 B3
  go_wp2_with fail
  refine (rdif_any R4 hw4 hm4 (by rw [HL.out]; exact hzz.out) (by rw [HL.out]; exact hmm.out) (by rw [HL.out]; omega)).mono ?_
  rintro e u5 ⟨v5, rfl, O5, b5⟩
  rw [HL.out] at O5
  have B5 := Below.next B4 b5
  have R5 := R4.below b5
  have HI : Hid (OwnI u5 w.heap.size 3 v5 (plc (tryW k m z ms T) (k + m))) := ownsRow_base O5 B4.size
  obtain ⟨g5, d5, ef⟩ := O5.form
  subst ef
  have HP : Hid _ := plc_length (tryW k m z ms T) (k + m)
  have hpc : (plc (wrg (co z) (co (tryL k m (wth ms T) z)) (hb ms)) (k + m)).length = cnt (tryW k m z ms T) (k + m) := HP.out
  obtain ⟨C, hC⟩ : ∃ C, Hid (C = cnt (tryW k m z ms T) (k + m)) := ⟨_, rfl⟩
  rw [← hC.out] at hpc
  rw [hpc] at HI ⊢
  simp only [← hC.out]
  have hdec : Hid (decide ((C : Int) ≤ (T.length : Int)) = decide (C ≤ T.length)) := by show _ = _; rw [Bool.eq_iff_iff, decide_eq_true_eq, decide_eq_true_eq]; omega
  clear O5 R4 hw4 hm4 b5 B4 hpc
  go_wp2
  exact bodyPost_ret (v := .tuple #[.slice g4 (tryL k m (wth ms T) z).length d4, .slice g5 C d5, .bool (decide ((C : Int) ≤ (T.length : Int)))]) (by simp [results, Try.results33, go_sem]) rfl ⟨_, _, by rw [hdec.out, hC.out], R5, HI.out, B5, HF4.out⟩

end Go.Proofs.Ytchfonofjbpmaaa.Gf

/-
  THE DOCUMENT's ANSWER FOR LAYER 10 (package aumbryref10) BY CONTRACT: 'Word'.
-/



namespace Go.Proofs.Ytchfonofjbpmaaa.Gf
set_option linter.unusedVariables false
set_option linter.unusedSimpArgs false
open Go.RowKit

/-- what is left: a word, places, an error -/
def MakesW10 (w : World) (X : Int) (R : List UInt8) (P : List Nat) (e : Ending) (w' : World) : Prop := ∃ va vd, e = .returned (.tuple #[va, vd, .int .i64 X]) ∧ Rd w' va R ∧ OwnI w' w.heap.size 3 vd P ∧ Below w.heap.size w w' ∧ Far w.heap.size va
theorem nilW10 {w w' : World} {x : Int} (b : Below w.heap.size w w') {X : Int} {R : List UInt8} {P : List Nat} (h : X = x ∧ R = [] ∧ P = []) : MakesW10 w X R P (.returned (.tuple #[.slice none 0 0, .slice none 0 0, .int .i64 x])) w' := by
  obtain ⟨rfl, rfl, rfl⟩ := h
  exact ⟨_, _, rfl, Or.inl ⟨none, 0, rfl, rfl, Nat.zero_le _, fun _ => rfl⟩, OwnI.nil _ _ _, b, far_none⟩

/-- a set of places, as it lies in memory -/
def gW10 (v : Value) (w : World) (i : Nat) : Nat :=
  match v with
  | .slice (some a) _ _ => (intOf ((w.cell? ⟨a.block, i, none⟩).getD undef)).toNat
  | _ => 0
/-- how many sets are still ahead, at most -/
def mea10 (s r : Nat) (o : Value) (mo : Value) (w : World) : Nat :=
  match mo with
  | .bool true => (s + 1) ^ r - rkF s (gW10 o w) r
  | _ => 0
theorem mea_t (s r : Nat) (o : Value) (w : World) : mea10 s r o (.bool true) w = (s + 1) ^ r - rkF s (gW10 o w) r := rfl
theorem mea_f (s r : Nat) (o : Value) (w : World) : mea10 s r o (.bool false) w = 0 := rfl
theorem rk_congr {n : Nat} {g h : Nat → Nat} {t : Nat} (e : ∀ i, i < t → g i = h i) : rkF n g t = rkF n h t := by
  induction t with
  | zero => rfl
  | succ t ih => rw [rkF, rkF, ih fun i hi => e i (by omega), e t (by omega)]
theorem rk_own {w : World} {base e n t : Nat} {v : Value} {g : Nat → Nat} (h : OwnI w base e v (stL g t)) : rkF n (gW10 v w) t = rkF n g t := by
  obtain ⟨a, c, rfl⟩ := h.form
  refine rk_congr fun i hi => ?_
  obtain ⟨q, rfl, _, _, hc⟩ := h.cell (i := i) (by rw [stL_length]; exact hi)
  rw [stL_getD hi] at hc
  show (intOf ((w.cell? ⟨q, i, none⟩).getD undef)).toNat = g i
  rw [hc]
  simp [intOf]
set_option maxRecDepth 100000 in
set_option maxHeartbeats 4000000 in
theorem rword_main {k m s : Nat} {v vm : Value} {z : List UInt8} {ms : List Bool} {w : World} (h1 : 1 ≤ k) (h2 : k + m ≤ 256) (hz : Rd w v z) (hM : RdB w vm ms) (hs0 : s = k + m) (p1 : z.length = s) (p2 : ms.length = s) :
    Calls Try.prog 13 #[.int .i64 (k : Int), .int .i64 (m : Int), v, vm] w (MakesW10 w (wdX k m z ms) (wdR k m z ms) (wdP k m z ms)) := by
  have ok : OkC (k : Int) (m : Int) := ⟨by omega, by omega, by omega⟩
  obtain ⟨i0, hi, hz0, hz1, hz2⟩ := info_parts info_int
  obtain ⟨za, zc, rfl⟩ := hz.form
  obtain ⟨ma, mc, rfl⟩ := hM.form
  have g1 : (k : Int) + (m : Int) = (s : Int) := by omega
  have gw : IntKind.i64.wrap (s : Int) = (s : Int) := by rw [IntKind.wrap_i64]; omega
  have q1 : ((z.length : Int) != (s : Int)) = false := by simp [p1]
  have q2 : ((ms.length : Int) != (s : Int)) = false := by simp [p2]
  have p1' : Hid _ := p1
  have p2' : Hid _ := p2
  have hs0' : Hid _ := hs0
  clear p1 p2 hs0
  go_enter Try.func13, Try.ntmps13
  go_wp2_with fail
  refine (rccheck_ok _ ok).mono ?_
  rintro e u1 ⟨rfl, rfl⟩
  go_wp2_with fail
  refine (rcnt_any hM).mono ?_
  rintro e u2 ⟨rfl, rfl⟩
  obtain ⟨e0, he0⟩ : ∃ e0, Hid (e0 = cnt (hb ms) ms.length) := ⟨_, rfl⟩
  rw [← he0.out]
  have he2 : e0 ≤ 256 := by rw [he0.out]; have := cnt_le (hb ms) ms.length; have := p2'.out; have := hs0'.out; omega
  go_wp2_with fail
  go_loopw [13] (fun x wr => ∃ t : Nat, t ≤ m + 1 ∧ x = .int .i64 (t : Int) ∧ Below u2.heap.size u2 wr ∧ Hid (∀ t' g, t' < t → Inc s t' g → Vain k m z ms t' g)) (fun x _ => m + 1 - (intOf x).toNat)
  case atStart => exact ⟨0, by omega, rfl, Below.refl _ _, fun t' g h => by omega⟩
  case round =>
    obtain ⟨t, ht, rfl, hB, hV⟩ := hrel
    have gt1 : IntKind.i64.wrap (2 * (t : Int)) = 2 * (t : Int) := by rw [IntKind.wrap_i64]; omega
    have gt2 : IntKind.i64.wrap (2 * (t : Int) + (e0 : Int)) = 2 * (t : Int) + (e0 : Int) := by rw [IntKind.wrap_i64]; omega
    by_cases hle : 2 * t + e0 ≤ m
    · have hle' : 2 * (t : Int) + (e0 : Int) ≤ (m : Int) := by omega
      obtain ⟨wo, hwo⟩ : ∃ wo, wo = wr := ⟨_, rfl⟩
      subst hwo
      go_wp2_with fail
      go_loopw [14, 15] (fun o i wz => ∃ r : Nat, r ≤ t ∧ i = .int .i64 (r : Int) ∧ OwnI wz u2.heap.size 3 o (stL (fun j => j) r) ∧ Below u2.heap.size u2 wz) (fun _ i _ => t - (intOf i).toNat)
      case atStart => exact ⟨0, by omega, rfl, OwnI.nil _ _ _, hB⟩
      case round =>
        obtain ⟨r, hr, rfl, hO, hB2⟩ := hrel
        have hsz := hB2.size
        have hsl : Hid _ := stL_length (fun j => j) r
        obtain ⟨av, cv, ev⟩ := hO.form
        rw [hsl.out] at ev
        subst ev
        by_cases hlt : r < t
        · have hlt' : (r : Int) < (t : Int) := by omega
          have E' : Hid _ := stL_succ (fun j => j) r
          clear hz hM hB
          go_wp2_with (at_builtin; go_loud (refine wpList_append_int rfl (.tmp 57) (.tmp 59) 28 rfl u2.heap.size 3 i0 Try.underlying28 hi hz0 hz1 hz2 (.slice av r cv) (stL (fun j => j) r) rfl hO r _ 1 rfl (by rw [hsl.out]; omega) hsz ?_); intro v' w9 hv2 hb2)
          have HO : Hid (OwnI w9 u2.heap.size 3 v' (stL (fun j => j) (r + 1))) := by show OwnI _ _ _ _ _; rw [E'.out]; exact hv2
          have HB : Hid (Below u2.heap.size u2 w9) := hB2.trans hb2
          clear hO hv2 hb2 hB2
          go_wp2
          go_roundw
          case rel => exact ⟨r + 1, by omega, by go_num, HO.out, HB.out⟩
          case measure => simp [intOf]; omega
        · have hge : ¬ (r : Int) < (t : Int) := by omega
          have er : r = t := by omega
          subst er
          obtain ⟨wp, hwp⟩ : ∃ wp, wp = wr := ⟨_, rfl⟩
          subst hwp
          have hrs : r ≤ s := by have := hs0'.out; omega
          go_wp2_with fail
          go_loopw [14, 16] (fun o mo wz => Below u2.heap.size u2 wz ∧ ((mo = .bool true ∧ ∃ g, Hid (Inc s r g) ∧ OwnI wz u2.heap.size 3 o (stL g r) ∧ Hid (∀ T, Inc s r T → Lx r T g → Vain k m z ms r T)) ∨ (mo = .bool false ∧ (∃ oa on oc, o = .slice oa on oc) ∧ Hid (∀ T, Inc s r T → Vain k m z ms r T)))) (fun o mo wz => mea10 s r o mo wz)
          case atStart => exact ⟨hB2, Or.inl ⟨rfl, fun j => j, first_inc hrs, hO, fun T hT hl => absurd hl (nx_first hT)⟩⟩
          case round =>
            clear hO
            obtain ⟨hB3, ⟨rfl, g, hI, hO, hT⟩ | ⟨rfl, ⟨oa, on, oc, rfl⟩, hT⟩⟩ := hrel
            · have hlen : Hid _ := stL_length g r
              obtain ⟨av, cv, ev⟩ := hO.form
              rw [hlen.out] at ev
              subst ev
              have R1 := hO.rd (by rw [hlen.out]; omega)
              have hrk : Hid (rkF s (gW10 (.slice av r cv) wr) r = rkF s g r) := rk_own hO
              have hlt9 : Hid (rkF s g r < (s + 1) ^ r) := rk_lt fun i hi => Nat.le_of_lt (hI.out.lt i hi)
              have C1 := rtried_any (T := stL g r) h1 h2 (by rw [p1'.out, hs0'.out]) (by rw [p2'.out, hs0'.out]) (hz.below hB3) (hM.below hB3) R1 (fun i hi9 => by rw [hlen.out] at hi9; rw [stL_getD hi9, ← hs0'.out]; exact hI.out.lt i hi9) (by rw [hlen.out, ← hs0'.out, ← p2'.out, ← he0.out]; omega) rfl rfl
              by_cases hd : cnt (tryW k m z ms (stL g r)) (k + m) ≤ (stL g r).length
              · rw [decide_eq_true hd] at C1
                have hN := try_near h1 h2 (show ms.length = k + m by rw [p2'.out, hs0'.out]) (show z.length = k + m by rw [p1'.out, hs0'.out]) (T := stL g r) (by rw [hlen.out, ← hs0'.out, ← p2'.out, ← he0.out]; exact hle) hd
                have hW := wd_ok ok ⟨by rw [p1'.out, g1], by rw [p2'.out, g1]⟩ hN
                have hLe := try_len h1 (hs := wth ms (stL g r)) (z := z) (by rw [wth_length, p2'.out, hs0'.out]) (by rw [p1'.out, hs0'.out]) (wth_there (by rw [p2'.out, hs0'.out]) (by rw [hlen.out, ← hs0'.out, ← p2'.out, ← he0.out]; omega))
                have EE : Hid (wdX k m z ms = 0 ∧ wdR k m z ms = tryL k m (wth ms (stL g r)) z ∧ wdP k m z ms = plc (tryW k m z ms (stL g r)) (k + m)) := ⟨hW.1, hW.2.1.trans (by rw [← hLe]; exact upto_co _), hW.2.2⟩
                clear hW hLe hN hd hT hV hI hrk hlt9 R1 hO hz hM hB2 hB
                go_wp2_with fail
                refine C1.mono ?_
                rintro e w9 ⟨va, vd, rfl, Ra, Rd9, b9, f9⟩
                obtain ⟨aa, ac, rfl⟩ := Ra.form
                obtain ⟨da, dc, rfl⟩ := Rd9.form
                have HR : Hid (Rd w9 _ _ ∧ OwnI w9 u2.heap.size 3 _ _ ∧ Below u2.heap.size u2 w9 ∧ Far u2.heap.size _) := And.intro Ra (And.intro (ownsRow_base Rd9 hB3.size) (And.intro (Below.next hB3 b9) (f9.mono hB3.size)))
                clear f9 Ra Rd9 b9 hB3 C1
                go_wp2
                exact bodyPost_ret (v := .tuple #[.slice aa (tryL k m (wth ms (stL g r)) z).length ac, .slice da (plc (tryW k m z ms (stL g r)) (k + m)).length dc, .int .i64 0]) (by simp [results, Try.results13, go_sem]) rfl ⟨_, _, by rw [EE.out.1], by rw [EE.out.2.1]; exact HR.out.1, by rw [EE.out.2.2]; exact HR.out.2.1, HR.out.2.2.1, HR.out.2.2.2⟩
              · rw [decide_eq_false hd] at C1
                have HVn : Hid (Vain k m z ms r g) := by
                  show r < cnt (tryW k m z ms (stL g r)) (k + m)
                  rw [hlen.out] at hd
                  omega
                clear hd
                go_wp2_with fail
                refine C1.mono ?_
                rintro e w9 ⟨va, vd, rfl, Ra, Rd9, b9, f9⟩
                obtain ⟨aa, ac, rfl⟩ := Ra.form
                obtain ⟨da, dc, rfl⟩ := Rd9.form
                have hO9 : OwnI w9 u2.heap.size 3 (.slice av r cv) (stL g r) := owns_later hO b9
                have B9 := Below.next hB3 b9
                clear f9 Ra Rd9 b9 C1 R1 hO
                generalize (tryL k m (wth ms (stL g r)) z).length = n1
                generalize (plc (tryW k m z ms (stL g r)) (k + m)).length = n2
                have C2 := rnext_any hO9 hI.out (by omega) (by omega) (x := (s : Int)) rfl
                go_wp2_with fail
                refine C2.mono ?_
                rintro e w8 ⟨b8, h8⟩
                have B8 := Below.next B9 b8
                rcases h8 with ⟨i, hi1, hi2, hi3, v8, rfl, O8⟩ | ⟨hi3, rfl⟩
                · have O8' : OwnI w8 u2.heap.size 3 v8 (stL (nxF g i) r) := ownsRow_base O8 B9.size
                  obtain ⟨na, nc, ev⟩ := O8'.form
                  rw [stL_length] at ev
                  subst ev
                  have HI : Hid _ := nx_inc hI.out hi1 hi2
                  have HT : Hid _ := tried_next (Bad := Vain k m z ms r) hi1 hi3 (fun a b e h => h.congr e) hT.out HVn.out
                  have HRk : Hid (rkF s (gW10 (.slice na r nc) w8) r = rkF s (nxF g i) r) := rk_own O8'
                  have HLt : Hid (rkF s g r < rkF s (nxF g i) r) := rk_lx (fun j hj => Nat.le_of_lt (hI.out.lt j hj)) (nx_lx hi1)
                  have HL2 : Hid (rkF s (nxF g i) r < (s + 1) ^ r) := rk_lt fun j hj => Nat.le_of_lt (HI.out.lt j hj)
                  have HO : Hid _ := O8'
                  have HB : Hid _ := B8
                  clear O8 O8' C2 b8 B8 B9 hO9 hi1 hi2 hi3 hT hI
                  go_wp2
                  go_roundw
                  case rel => exact ⟨HB.out, Or.inl ⟨rfl, _, HI, HO.out, HT⟩⟩
                  case measure =>
                    show mea10 s r (.slice na r nc) (.bool true) w8 < mea10 s r (.slice av r cv) (.bool true) wr
                    rw [mea_t, mea_t, HRk.out, hrk.out]
                    have := HLt.out
                    have := HL2.out
                    omega
                · have HT : Hid _ := tried_all (Bad := Vain k m z ms r) hi3 (fun a b e h => h.congr e) hT.out HVn.out
                  have HB : Hid _ := B8
                  clear C2 b8 B8 B9 hO9 hi3 hT hI
                  go_wp2
                  go_roundw
                  case rel => exact ⟨HB.out, Or.inr ⟨rfl, ⟨_, _, _, rfl⟩, HT⟩⟩
                  case measure =>
                    show mea10 s r (.slice none 0 0) (.bool false) w8 < mea10 s r (.slice av r cv) (.bool true) wr
                    rw [mea_t, mea_f, hrk.out]
                    have := hlt9.out
                    omega
            · have HV : Hid (∀ t' g, t' < r + 1 → Inc s t' g → Vain k m z ms t' g) := fun t' g h hi9 => by
                by_cases q : t' = r
                · rw [q] at hi9 ⊢; exact hT.out g hi9
                · exact hV.out t' g (by omega) hi9
              clear hT hV hz hM hB2 hB
              go_wp2
              go_roundw
              case rel => exact ⟨r + 1, by omega, by go_num, hB3, HV⟩
              case measure => simp [intOf]; omega
    · have hle' : ¬ 2 * (t : Int) + (e0 : Int) ≤ (m : Int) := by omega
      have EE : Hid _ := wd_many (z := z) (ms := ms) ok ⟨by rw [p1'.out, g1], by rw [p2'.out, g1]⟩ (vain_none h1 h2 (by rw [p2'.out, hs0'.out]) (by rw [p1'.out, hs0'.out]) (fun t' g h hi => by
        refine hV.out t' g ?_ (by rw [hs0'.out]; exact hi)
        rw [← hs0'.out, ← p2'.out, ← he0.out] at h
        omega))
      clear hV hz hM
      go_wp2
      exact bodyPost_ret (v := .tuple #[.slice none 0 0, .slice none 0 0, .int .i64 100]) (by simp [results, Try.results13, go_sem]) rfl (nilW10 hB EE.out)

set_option maxRecDepth 100000 in
set_option maxHeartbeats 2000000 in
theorem rword_any {k m : Int} {v vm : Value} {z : List UInt8} {ms : List Bool} {w : World} (hz : Rd w v z) (hM : RdB w vm ms) : Calls Try.prog 13 #[.int .i64 k, .int .i64 m, v, vm] w (MakesW10 w (wdX k m z ms) (wdR k m z ms) (wdP k m z ms)) := by
  by_cases c : OkC k m
  · obtain ⟨k, m, rfl, rfl, h1, h2⟩ := c.nat
    obtain ⟨s, hs⟩ : ∃ s, Hid (s = k + m) := ⟨_, rfl⟩
    by_cases p1 : z.length = s
    · by_cases p2 : ms.length = s
      · exact rword_main h1 h2 hz hM hs.out p1 p2
      · have EE : Hid _ := wd_shard (z := z) (ms := ms) c (fun h => p2 (by have := h.2; have := hs.out; omega))
        obtain ⟨za, zc, rfl⟩ := hz.form
        obtain ⟨ma, mc, rfl⟩ := hM.form
        have g1 : (k : Int) + (m : Int) = (s : Int) := by have := hs.out; omega
        have gw : IntKind.i64.wrap (s : Int) = (s : Int) := by have := hs.out; rw [IntKind.wrap_i64]; omega
        have q1 : ((z.length : Int) != (s : Int)) = false := by simp [p1]
        have q2 : ((ms.length : Int) != (s : Int)) = true := by simp; omega
        clear p1 p2 hz hM
        go_enter Try.func13, Try.ntmps13
        go_wp2_with fail
        refine (rccheck_ok _ c).mono ?_
        rintro e u1 ⟨rfl, rfl⟩
        clear c
        go_wp2
        exact bodyPost_ret (v := .tuple #[.slice none 0 0, .slice none 0 0, .int .i64 60]) (by simp [results, Try.results13, go_sem]) rfl (nilW10 (Below.refl _ _) EE.out)
    · have EE : Hid _ := wd_shard (z := z) (ms := ms) c (fun h => p1 (by have := h.1; have := hs.out; omega))
      obtain ⟨za, zc, rfl⟩ := hz.form
      obtain ⟨ma, mc, rfl⟩ := hM.form
      have g1 : (k : Int) + (m : Int) = (s : Int) := by have := hs.out; omega
      have gw : IntKind.i64.wrap (s : Int) = (s : Int) := by have := hs.out; rw [IntKind.wrap_i64]; omega
      have q1 : ((z.length : Int) != (s : Int)) = true := by simp; omega
      clear p1 hz hM
      go_enter Try.func13, Try.ntmps13
      go_wp2_with fail
      refine (rccheck_ok _ c).mono ?_
      rintro e u1 ⟨rfl, rfl⟩
      clear c
      go_wp2
      exact bodyPost_ret (v := .tuple #[.slice none 0 0, .slice none 0 0, .int .i64 60]) (by simp [results, Try.results13, go_sem]) rfl (nilW10 (Below.refl _ _) EE.out)
  · have EE : Hid _ := wd_bad (z := z) (ms := ms) c
    obtain ⟨za, zc, rfl⟩ := hz.form
    obtain ⟨ma, mc, rfl⟩ := hM.form
    clear hz hM
    go_enter Try.func13, Try.ntmps13
    go_wp2_with fail
    refine (rccheck_bad _ c).mono ?_
    rintro e u1 ⟨rfl, rfl⟩
    clear c
    go_wp2
    exact bodyPost_ret (v := .tuple #[.slice none 0 0, .slice none 0 0, .int .i64 50]) (by simp [results, Try.results13, go_sem]) rfl (nilW10 (Below.refl _ _) EE.out)

end Go.Proofs.Ytchfonofjbpmaaa.Gf

