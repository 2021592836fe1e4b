/-
  THE DOCUMENT's ANSWER FOR LAYER 6 (package aumbryref06) BY CONTRACT: 'word' and 'Encode'.
-/
import Derived.Test.YtehphjapahdalaaBkRefA
import Derived.Test.YtehphjapahdalaaBkCop
import Derived.Test.YtehphjapahdalaaBkX
import Derived.Test.YtehphjapahdalaaCaRefP
import Derived.BigQuiet
namespace Go.Proofs.Ytehphjapahdalaa.Gf
set_option linter.unusedVariables false
set_option linter.unusedSimpArgs false
open Go.RowKit

theorem rmu6_at {w : World} (a b : UInt8) {x y : Int} (hx : x = ((a.toNat : Nat) : Int)) (hy : y = ((b.toNat : Nat) : Int)) :
    Calls Try.prog 35 #[.int .u8 x, .int .u8 y] w fun e w' => e = .returned (.int .u8 ((mu a b).toNat : Nat)) ∧ w' = w := by
  rw [mu_toNat]
  exact rmul_at a.toNat b.toNat hx hy (u8_lt a) (u8_lt b)

set_option maxRecDepth 100000 in
set_option maxHeartbeats 2000000 in
theorem word_any {w : World} {vs v : Value} {L : List (List UInt8)} (m k i n : Nat) (F : Mx) (hA : Rd w vs (flat m k F)) (hm : m ≤ 256) (hk : k ≤ 256) (hi : i < m) (h : Rs w v L) (hL : L.length = k) (hn : ∀ j, j < k → n < (ro L j).length) (hn2 : n ≤ 300) {x y z t : Int} (hx : x = (m : Int)) (hy : y = (k : Int)) (hz : z = (i : Int)) (ht : t = (n : Int)) :
    Calls Try.prog 28 #[.agg #[.int .i64 x, .int .i64 y, vs], .int .i64 z, v, .int .i64 t] w fun e w' => e = .returned (.int .u8 ((wd F L i k n).toNat : Nat)) ∧ Below w.heap.size w w' := by
  subst hx hy hz ht
  obtain ⟨da, dc, rfl⟩ := h.form
  have hLh : Hid (L.length = k) := hL
  rw [hL] at h ⊢
  clear hL
  obtain ⟨N, hN⟩ : ∃ N, Hid (N = (flat m k F).length) := ⟨_, rfl⟩
  obtain ⟨va, vc, rfl⟩ := hA.form
  rw [← hN.out] at hA ⊢
  have hNm : Hid (N = m * k) := by show _ = _; rw [hN.out, flat_length]
  have B0 : Below w.heap.size w (w.alloc (.cells #[.int .i64 (m : Int), .int .i64 (k : Int), .slice va N vc] 52)) := (Below.refl _ _).alloc (Nat.le_refl _) _
  have X0 := Box.new w (m : Int) (k : Int) (.slice va N vc) 52
  have h0 := h.below B0
  have hA0 := hA.below B0
  have hn' : Hid _ := hn
  clear h hA hn hN
  go_enter Try.func28, Try.ntmps28
  go_wp2
  generalize w.alloc (.cells #[.int .i64 (m : Int), .int .i64 (k : Int), .slice va N vc] 52) = w1 at *
  have x1 := X0.c1
  have x2 := X0.c2
  go_loopw [9, 10] (fun o c wr => ∃ j : Nat, j ≤ k ∧ c = .int .i64 j ∧ o = .int .u8 ((wd F L i j n).toNat : Nat) ∧ ∃ nd, wr = w1.drewN nd) (fun _ c _ => k - (intOf c).toNat)
  case atStart => exact ⟨0, by omega, rfl, rfl, 0, rfl⟩
  case round =>
    obtain ⟨j, hj, rfl, rfl, nd, hd0⟩ := hrel
    by_cases hlt : j < k
    · have hlt' : (j : Int) < (k : Int) := by omega
      obtain ⟨db, doff, xa, xc, eda, hdb, cj, rj⟩ := h0.at (i := j) (by rw [hLh.out]; exact hlt)
      subst eda
      have hnj := hn'.out j hlt
      have hnj' : (n : Int) < ((ro L j).length : Int) := by omega
      obtain ⟨xb, xo, exa, hxb, dj⟩ := rj.byte hnj
      subst exa
      obtain ⟨T, hT⟩ : ∃ T, Hid (T = i * k + j) := ⟨_, rfl⟩
      have hTN : T < N := by rw [hT.out, hNm.out]; exact place_lt hi hlt
      have hNs : N ≤ 65536 := by rw [hNm.out]; exact mul_small hm hk
      obtain ⟨o', ho'⟩ : ∃ o', Hid (o' = i * k) := ⟨_, rfl⟩
      have hoT : o' + j = T := by rw [ho'.out, hT.out]
      have v0 : (i : Int) * (k : Int) = (o' : Int) := by rw [ho'.out]; exact_mod_cast rfl
      have v3 : (o' : Int) + (j : Int) = (T : Int) := by omega
      have v1 : IntKind.i64.wrap (o' : Int) = (o' : Int) := by rw [IntKind.wrap_i64]; omega
      have v2 : IntKind.i64.wrap (T : Int) = (T : Int) := by rw [IntKind.wrap_i64]; omega
      obtain ⟨ab, ao, eva, hab, ca⟩ := hA0.byte (i := T) (by rw [flat_length, ← hNm.out]; exact hTN)
      have eT : co (flat m k F) T = F i j := by rw [hT.out]; exact en_flat F hi hlt
      rw [eT] at ca
      subst eva
      have hTN' : (T : Int) < (N : Int) := by omega
      have E := xor_u8 (wd F L i j n) (mu (F i j) (co (ro L j) n))
      have HE : Hid (((wd F L i j n).toNat ^^^ (mu (F i j) (co (ro L j) n)).toNat : Nat) = (wd F L i (j + 1) n).toNat) := by show _ = _; rw [wd_succ, UInt8.toNat_xor]
      have hd : Hid (wr = w1.drewN nd) := hd0
      have y1 : wr.cell? ⟨w.heap.size, 1, none⟩ = some (.int .i64 (k : Int)) := by rw [hd0]; exact x1
      have y2 : wr.cell? ⟨w.heap.size, 2, none⟩ = some (.slice (some ⟨ab, ao, none⟩) N vc) := by rw [hd0]; exact x2
      have cj2 : wr.cell? ⟨db, doff + j, none⟩ = some (.slice (some ⟨xb, xo, none⟩) (ro L j).length xc) := by rw [hd0]; exact cj
      have dj2 : wr.cell? ⟨xb, xo + n, none⟩ = some (.int .u8 ((co (ro L j) n).toNat : Nat)) := by rw [hd0]; exact dj
      have ca2 : wr.cell? ⟨ab, ao + T, none⟩ = some (.int .u8 ((F i j).toNat : Nat)) := by rw [hd0]; exact ca
      clear hd0 hoT eT cj dj ca rj x1 x2 h0 hA0 X0 hn'
      go_wp2
      go_quiet ((go_at_call 35; go_loud (exact Calls.quiet_of_same (rmu6_at (F i j) (co (ro L j) n) rfl rfl))))
      go_wp2
      go_roundw
      case rel => exact ⟨j + 1, by omega, by go_num, by rw [HE.out], _, by show _ = _; rw [hd.out, World.drewN_drewN]⟩
      case measure => simp [intOf]; omega
    · have hge : ¬ (j : Int) < (k : Int) := by omega
      have ej : j = k := by omega
      subst ej
      have HB : Hid (Below w.heap.size w wr) := by rw [hd0]; exact B0.drewN nd
      clear hd0 h0 hA0 X0 x1 x2 hn'
      go_wp2
      go_ret
      exact ⟨rfl, HB.out⟩

set_option maxRecDepth 100000 in
set_option maxHeartbeats 1000000 in
theorem renc_bad {k m : Int} {v : Value} {w : World} (h : ¬ OkC k m) : Calls Try.prog 13 #[.int .i64 k, .int .i64 m, v] w (MakesRs w 50 []) := by
  go_enter Try.func13, Try.ntmps13
  go_wp2_with fail
  refine (rpar_bad _ h).mono ?_
  rintro e w2 ⟨vs, rfl, hR, b2⟩
  obtain ⟨va, vc, rfl⟩ := hR.form
  clear h hR
  go_wp2
  exact bodyPost_ret (v := .tuple #[.slice none 0 0, .int .i64 50]) (by simp [results, Try.results13, go_sem]) rfl ⟨_, rfl, rs_none, below_lit b2 _⟩

set_option maxRecDepth 100000 in
set_option maxHeartbeats 1000000 in
theorem renc_shard {k m : Nat} {v : Value} {L : List (List UInt8)} {w : World} (h1 : 1 ≤ k) (h2 : k + m ≤ 256) (h : Rs w v L) (hb : ¬ ((L.length : Int) = (k : Int) ∧ Even L)) {x y : Int} (hx : x = (k : Int)) (hy : y = (m : Int)) :
    Calls Try.prog 13 #[.int .i64 x, .int .i64 y, v] w (MakesRs w 60 []) := by
  subst hx hy
  have hE : Hid (alikeB L (k : Int) = false) := decide_eq_false hb
  obtain ⟨da, dc, rfl⟩ := h.form
  clear hb
  go_enter Try.func13, Try.ntmps13
  go_wp2_with fail
  refine (rpar_ok _ h1 h2 rfl rfl).mono ?_
  rintro e w2 ⟨vs, rfl, hR, b2⟩
  obtain ⟨va, vc, rfl⟩ := hR.form
  have B2 : Hid (Below w.heap.size w (w2.alloc (.cells #[.int .i64 (m : Int), .int .i64 (k : Int), .slice va (flat m k (parF k)).length vc] 52))) := below_lit b2 _
  clear hR b2
  go_wp2_with fail
  refine (alike_any (h.below B2.out)).mono ?_
  rintro e w3 ⟨rfl, nd, hd⟩
  rw [hE.out]
  have B3 : Hid (Below w.heap.size w w3) := by rw [hd]; exact B2.out.drewN nd
  clear h B2 hd
  go_wp2
  exact bodyPost_ret (v := .tuple #[.slice none 0 0, .int .i64 60]) (by simp [results, Try.results13, go_sem]) rfl ⟨_, rfl, rs_none, B3.out⟩

set_option maxRecDepth 100000 in
set_option maxHeartbeats 4000000 in
theorem renc_ok {k m : Nat} {v : Value} {L : List (List UInt8)} {w : World} (h1 : 1 ≤ k) (h2 : k + m ≤ 256) (h : Rs w v L) (hL : L.length = k) (hE : Even L) (hS : Small L) {x y : Int} (hx : x = (k : Int)) (hy : y = (m : Int)) :
    Calls Try.prog 13 #[.int .i64 x, .int .i64 y, v] w (MakesRs w 0 (encL m k (parF k) L)) := by
  subst hx hy
  obtain ⟨i0, hi, hz0, hz1, hz2⟩ := info_parts info_u8
  obtain ⟨i1, hj, hy0, hy1, hy2⟩ := info_parts info_shard
  have hAl : Hid (alikeB L (k : Int) = true) := alikeB_true (by omega) hE
  obtain ⟨db, doff, dc, rfl, hdb, hdc, hdm⟩ := h.somewhere (by omega)
  have hLh : Hid (L.length = k) := hL
  rw [hL] at h ⊢
  clear hL
  obtain ⟨F, hFF⟩ : ∃ F, Hid (F = parF k) := ⟨_, rfl⟩
  rw [← hFF.out]
  go_enter Try.func13, Try.ntmps13
  go_wp2_with fail
  refine (rpar_ok _ h1 h2 rfl rfl).mono ?_
  rintro e w2 ⟨vs, rfl, hR, b2⟩
  rw [← hFF.out] at hR
  obtain ⟨N, hN⟩ : ∃ N, Hid (N = (flat m k F).length) := ⟨_, rfl⟩
  obtain ⟨va, vc, rfl⟩ := hR.form
  rw [← hN.out] at hR ⊢
  have A2 : Below w2.heap.size w2 (w2.alloc (.cells #[.int .i64 (m : Int), .int .i64 (k : Int), .slice va N vc] 52)) := (Below.refl _ _).alloc (Nat.le_refl _) _
  have B2 : Below w.heap.size w (w2.alloc (.cells #[.int .i64 (m : Int), .int .i64 (k : Int), .slice va N vc] 52)) := below_lit b2 _
  have X2 := Box.new w2 (m : Int) (k : Int) (.slice va N vc) 52
  have hl2 : w2.heap.size < (w2.alloc (.cells #[.int .i64 (m : Int), .int .i64 (k : Int), .slice va N vc] 52)).heap.size := by simp
  have hR2 := hR.below A2
  have hD2 := h.below B2
  clear hR b2 A2 h
  go_wp2_with fail
  refine (alike_any hD2).mono ?_
  rintro e w3 ⟨rfl, nd, hd⟩
  rw [hAl.out]
  have b3 : Below (w2.alloc (.cells #[.int .i64 (m : Int), .int .i64 (k : Int), .slice va N vc] 52)).heap.size (w2.alloc (.cells #[.int .i64 (m : Int), .int .i64 (k : Int), .slice va N vc] 52)) w3 := by rw [hd]; exact (Below.refl _ _).drewN nd
  clear hd hAl
  generalize w2.alloc (.cells #[.int .i64 (m : Int), .int .i64 (k : Int), .slice va N vc] 52) = w1 at *
  replace X2 := X2.below hl2 b3
  replace hl2 := Nat.lt_of_lt_of_le hl2 b3.size
  replace hR2 := hR2.below b3
  replace hD2 := hD2.below b3
  replace B2 := Below.next B2 b3
  clear b3
  go_wp2_with fail
  refine (rcop_any hD2 hS).mono ?_
  rintro e w4 ⟨vo, rfl, hO4, b4⟩
  obtain ⟨B, hBB⟩ : ∃ B, Hid (B = w3.heap.size) := ⟨_, rfl⟩
  rw [← hBB.out] at hO4 b4 hl2
  have HX : Hid (∀ wr, Below B w3 wr → Box wr w2.heap.size (m : Int) (k : Int) (.slice va N vc)) := fun wr hb => X2.below hl2 hb
  have HD : Hid (∀ wr, Below B w3 wr → Rs wr (.slice (some ⟨db, doff, none⟩) k dc) L) := fun wr hb => hD2.below (by rw [← hBB.out]; exact hb)
  have HA : Hid (∀ wr, Below B w3 wr → Rd wr (.slice va N vc) (flat m k F)) := fun wr hb => hR2.below (by rw [← hBB.out]; exact hb)
  have hdB : db < B := by
    obtain ⟨b', off', xa, xc, e, h, _⟩ := hD2.at (i := 0) (by rw [hLh.out]; omega)
    simp at e
    rw [hBB.out, e.1]; exact h
  have hsB : Hid (w.heap.size ≤ B) := by rw [hBB.out]; exact B2.size
  have HB2 : Hid _ := B2
  have hSk : Hid (∀ i, (ro L i).length ≤ 300) := hS.2
  have hEv : Hid (Even L) := hE
  have HO4 : Hid (Os w4 B 35 5 vo L) := hO4
  have HB4 : Hid (Below B w3 w4) := b4
  clear X2 hD2 hR2 hS hE hO4 b4 B2 hN
  go_wp2
  go_loopw [11, 12] (fun o i wr => ∃ r : Nat, r ≤ m ∧ i = .int .i64 r ∧ Os wr B 35 5 o (L ++ mkL r (parR k F L)) ∧ Below B w3 wr) (fun _ i _ => m - (intOf i).toNat)
  case atStart => exact ⟨0, by omega, rfl, by simpa [mkL] using HO4.out, HB4.out⟩
  case round =>
    obtain ⟨r, hr, rfl, hO, hB⟩ := hrel
    clear HO4 HB4
    obtain ⟨wo, hwo⟩ : ∃ wo, wo = wr := ⟨_, rfl⟩
    subst hwo
    have hszr : B ≤ wo.heap.size := by rw [hBB.out]; exact hB.size
    by_cases hlt : r < m
    · have hlt' : (r : Int) < (m : Int) := by omega
      have HLen : Hid ((L ++ mkL r (parR k F L)).length = k + r) := by show _ = _; rw [List.length_append, mkL_length, hLh.out]
      obtain ⟨av, cv, ev⟩ := hO.form
      rw [HLen.out] at ev
      subst ev
      have hO' : Hid _ := hO
      have hB' : Hid _ := hB
      obtain ⟨n0, hn0⟩ : ∃ n0, Hid (n0 = (ro L 0).length) := ⟨_, rfl⟩
      have hn03 : n0 ≤ 300 := by rw [hn0.out]; exact hSk.out 0
      clear hO hB
      go_wp2
      go_loopw [13, 14] (fun s i w8 => ∃ t : Nat, t ≤ n0 ∧ i = .int .i64 t ∧ w8.ownsRow wo.heap.size 5 1 s t ((upto (wd F L r k) t).map vb) ∧ Below wo.heap.size wo w8) (fun _ i _ => n0 - (intOf i).toNat)
      case atStart => exact ⟨0, by omega, rfl, World.ownsRow_nil _ _ _ _, Below.refl _ _⟩
      case round =>
        obtain ⟨t, ht, rfl, hs, b8⟩ := hrel
        obtain ⟨w8, hw8⟩ : ∃ w8, w8 = wr := ⟨_, rfl⟩
        subst hw8
        have hB8 : Below B w3 w8 := hB'.out.trans (b8.mono hszr)
        have hs8 : wo.heap.size ≤ w8.heap.size := b8.size
        obtain ⟨ya, yc, c0, r0⟩ := (HD.out _ hB8).get (i := 0) (by rw [hLh.out]; omega)
        rw [Nat.add_zero, ← hn0.out] at c0
        have h0k : (0 : Int) < (k : Int) := by omega
        obtain ⟨sa, sc, es⟩ := owns_form hs
        subst es
        clear r0
        by_cases hlt3 : t < n0
        · have hlt3' : (t : Int) < (n0 : Int) := by omega
          have X8 := HX.out _ hB8
          have x0 := X8.c0
          have x1 := X8.c1
          have x2 := X8.c2
          have HW := word_any (n := t) m k r F (HA.out _ hB8) (by omega) (by omega) hlt (HD.out _ hB8) hLh.out (fun j hj => by rw [hEv.out j (by rw [hLh.out]; exact hj), ← hn0.out]; exact hlt3) (by omega) rfl rfl rfl rfl
          have hs' : Hid _ := hs
          have b8' : Hid _ := b8
          clear hs b8 X8 hB8
          go_wp2_with fail
          refine HW.mono ?_
          rintro e w9 ⟨rfl, b9⟩
          have hs9 := owns_later hs'.out b9
          have B9 : Hid (Below wo.heap.size wo w9) := Below.next b8'.out b9
          have hs9' : wo.heap.size ≤ w9.heap.size := B9.out.size
          clear HW hs' b8' b9 x0 x1 x2 c0
          go_wp2_with (at_builtin; go_loud (refine wpList_append_rd2 _ rfl (.tmp 44) (.tmp 50) 35 rfl wo.heap.size 5 i0 Try.underlying35 hi hz0 hz1 hz2 (.slice sa t sc) t _ rfl (World.ownsRow.alloc hs9 _) _ [wd F L r k t] rfl (rd_lit (n := 1) [wd F L r k t] rfl rfl (by decide)) (by simp; omega) (by simp; omega) ?_); intro x' w10 hx10 hg10 hb10)
          have HN : Hid (w10.ownsRow wo.heap.size 5 1 x' (t + 1) ((upto (wd F L r k) (t + 1)).map vb)) := (by rw [upto_vb_succ]; exact hx10 : w10.ownsRow wo.heap.size 5 1 x' (t + 1) ((upto (wd F L r k) (t + 1)).map vb))
          have HB10 : Hid (Below wo.heap.size wo w10) := (B9.out.alloc hs9' _).grown hg10 (by simp; omega) (fun q hq => (World.ownsRow.lt hs9 q hq).1)
          clear hx10 hg10 hb10 hs9 B9
          go_roundw
          case rel => exact ⟨t + 1, by omega, by go_num, HN.out, HB10.out⟩
          case measure => simp [intOf]; omega
        · have hge3 : ¬ (t : Int) < (n0 : Int) := by omega
          have et : t = n0 := by omega
          have hx8 : OwnP w8 B 5 (.slice sa t sc) (parR k F L r) := by
            unfold OwnP parR
            rw [upto_length, ← hn0.out, ← et]
            exact ownsRow_base hs hszr
          have hb1 : ∀ q, (Value.slice sa t sc).ownBlock = some q → wo.heap.size ≤ q := fun q hq => (World.ownsRow.lt hs q hq).1
          clear hs et
          go_wp2_with (at_builtin; go_loud (refine wpList_append_os rfl (.tmp 52) (.tmp 54) 23 rfl B 35 i1 Try.underlying23 hj hy0 hy1 hy2 5 (.slice av (k + r) cv) (L ++ mkL r (parR k F L)) rfl hO'.out b8 (.slice sa t sc) (parR k F L r) hx8 hb1 _ 1 rfl (by rw [HLen.out]; omega) hszr ?_); intro v' w9 hv9 hb9 _ _)
          have HOn : Hid (Os w9 B 35 5 v' (L ++ mkL (r + 1) (parR k F L))) := by
            show Os _ _ _ _ _ _
            rw [mkL_succ, ← List.append_assoc]; exact hv9
          have HBn : Hid (Below B w3 w9) := hB'.out.trans hb9
          clear hv9 hb9 hx8 hb1 hB8 b8 hO' hB' c0
          go_wp2
          go_roundw
          case rel => exact ⟨r + 1, by omega, by go_num, HOn.out, HBn.out⟩
          case measure => simp [intOf]; omega
    · have hge : ¬ (r : Int) < (m : Int) := by omega
      have er : r = m := by omega
      rw [er] at hO
      have HR : Hid (Rs wo u11 (encL m k F L)) := hO.rs
      have HBn : Hid (Below w.heap.size w wo) := Below.trans HB2.out (hB.mono hsB.out)
      obtain ⟨ra, rc, ev⟩ := hO.form
      subst ev
      clear hO hB er
      go_wp2
      exact bodyPost_ret (v := .tuple #[.slice ra (L ++ mkL m (parR k F L)).length rc, .int .i64 0]) (by simp [results, Try.results13, go_sem]) rfl ⟨_, rfl, HR.out, HBn.out⟩

theorem renc_any {k m : Int} {v : Value} {L : List (List UInt8)} {w : World} (h : Rs w v L) (hS : Small L) : Calls Try.prog 13 #[.int .i64 k, .int .i64 m, v] w (MakesRs w (encX k m L) (encR k m L)) := by
  rcases enc_cases k m L with c | ⟨c, d⟩ | ⟨c, d1, d2⟩
  · rw [(encX_bad c).1, (encX_bad c).2]
    exact renc_bad c
  · rw [(encX_shard c d).1, (encX_shard c d).2]
    obtain ⟨k, m, rfl, rfl, h1, h2⟩ := c.nat
    exact renc_shard h1 h2 h d rfl rfl
  · obtain ⟨k, m, rfl, rfl, h1, h2⟩ := c.nat
    rw [(encX_ok c d1 d2).1, (encX_ok c d1 d2).2]
    exact renc_ok h1 h2 h (by omega) d2 hS rfl rfl

end Go.Proofs.Ytehphjapahdalaa.Gf
