/-
  THE PROGRAM's 'Update' BY CONTRACT.
-/
import Derived.Test.YtehphjapahdalaaBkCC
import Derived.Test.YtehphjapahdalaaBkX
import Derived.Test.YtehphjapahdalaaBkPut
namespace Go.Proofs.Ytehphjapahdalaa.Gf
set_option linter.unusedVariables false
set_option linter.unusedSimpArgs false
open Go.RowKit

set_option maxRecDepth 100000 in
set_option maxHeartbeats 1000000 in
theorem upd_err {b : Nat} {k m j X : Int} {a1 a2 : Option Addr} {n1 n2 c1 c2 : Nat} {v : Value} {w : World} (hX : X ≠ 0) (hC : Calls Try.prog 24 #[.pointer (some ⟨b, 0, none⟩), .int .i64 k, .int .i64 m, .int .i64 m, v, .slice (some ⟨w.heap.size, 0, none⟩) 2 2] (w.alloc (.cells #[.slice a1 n1 c1, .slice a2 n2 c2] 35)) (MakesErr (w.alloc (.cells #[.slice a1 n1 c1, .slice a2 n2 c2] 35)) X)) :
    Calls Try.prog 17 #[.pointer (some ⟨b, 0, none⟩), .int .i64 k, .int .i64 m, .int .i64 j, .slice a1 n1 c1, .slice a2 n2 c2, v] w (MakesRs w X []) := by
  have hb : (X != 0) = true := by simp [hX]
  clear hX
  go_enter Try.func17, Try.ntmps17
  go_wp2_with fail
  refine hC.mono ?_
  rintro e w2 ⟨vs, rfl, hR, b2⟩
  have B2 : Below w.heap.size w w2 := Below.next ((Below.refl _ _).alloc (Nat.le_refl _) _) b2
  obtain ⟨va, vc, rfl⟩ := hR.form
  clear hC hR b2
  go_wp2
  exact bodyPost_ret (v := .tuple #[.slice none 0 0, .int .i64 X]) (by simp [results, Try.results17, go_sem]) rfl ⟨_, rfl, rs_none, below_lit B2 _⟩

set_option maxRecDepth 100000 in
set_option maxHeartbeats 1000000 in
theorem upd_errj {b : Nat} {k m j : Int} {R C : Int} {a1 a2 : Option Addr} {n1 n2 c1 c2 : Nat} {v : Value} {F : List UInt8} {w : World} (hj : ¬ (0 ≤ j ∧ j < k)) (hC : Calls Try.prog 24 #[.pointer (some ⟨b, 0, none⟩), .int .i64 k, .int .i64 m, .int .i64 m, v, .slice (some ⟨w.heap.size, 0, none⟩) 2 2] (w.alloc (.cells #[.slice a1 n1 c1, .slice a2 n2 c2] 35)) (fun e w' => ∃ vs, e = .returned (.tuple #[.agg #[.int .i64 R, .int .i64 C, vs], .int .i64 0]) ∧ Rd w' vs F ∧ Below (w.alloc (.cells #[.slice a1 n1 c1, .slice a2 n2 c2] 35)).heap.size (w.alloc (.cells #[.slice a1 n1 c1, .slice a2 n2 c2] 35)) w')) :
    Calls Try.prog 17 #[.pointer (some ⟨b, 0, none⟩), .int .i64 k, .int .i64 m, .int .i64 j, .slice a1 n1 c1, .slice a2 n2 c2, v] w (MakesRs w 60 []) := by
  go_enter Try.func17, Try.ntmps17
  go_wp2_with fail
  refine hC.mono ?_
  rintro e w2 ⟨vs, rfl, hR, b2⟩
  have B2 : Below w.heap.size w w2 := Below.next ((Below.refl _ _).alloc (Nat.le_refl _) _) b2
  obtain ⟨va, vc, rfl⟩ := hR.form
  clear hC hR b2
  by_cases h0 : j < 0
  · clear hj
    go_wp2
    exact bodyPost_ret (v := .tuple #[.slice none 0 0, .int .i64 60]) (by simp [results, Try.results17, go_sem]) rfl ⟨_, rfl, rs_none, below_lit B2 _⟩
  · have hge : j ≥ k := by omega
    clear hj
    go_wp2
    exact bodyPost_ret (v := .tuple #[.slice none 0 0, .int .i64 60]) (by simp [results, Try.results17, go_sem]) rfl ⟨_, rfl, rs_none, below_lit B2 _⟩

theorem even_two {A : List (List UInt8)} {p q : List UInt8} (h : Even (A ++ [p, q])) : q.length = p.length ∧ ∀ i, i < A.length → (ro A i).length = p.length := by
  have h1 := h A.length (by simp)
  have h2 := h (A.length + 1) (by simp)
  rw [ro_append_right (Nat.le_refl _), Nat.sub_self] at h1
  rw [ro_append_right (by omega), show A.length + 1 - A.length = 1 by omega] at h2
  refine ⟨by have e1 : ro [p, q] 0 = p := rfl; have e2 : ro [p, q] 1 = q := rfl; rw [e1] at h1; rw [e2] at h2; rw [h2, h1], fun i hi => ?_⟩
  have h3 := h i (by simp; omega)
  rw [ro_append_left hi, ← h1] at h3
  exact h3

set_option maxRecDepth 100000 in
set_option maxHeartbeats 4000000 in
theorem upd_ok {b k m j : Nat} {vp vq v : Value} {p q : List UInt8} {A : List (List UInt8)} {w : World} (hF : FieldAt w b) (h1 : 1 ≤ k) (h2 : k + m ≤ 256) (hj : j < k) (hp : Rd w vp p) (hq : Rd w vq q) (h : Rs w v A) (hO : OkS A [p, q] m) (hS : Small A) (hSp : p.length ≤ 300) {x y z : Int} (hx : x = (k : Int)) (hy : y = (m : Int)) (hz : z = (j : Int)) :
    Calls Try.prog 17 #[.pointer (some ⟨b, 0, none⟩), .int .i64 x, .int .i64 y, .int .i64 z, vp, vq, v] w (MakesRs w 0 (updL m (parF k) j p q A)) := by
  subst hx hy hz
  obtain ⟨i0, hi, hz0, hz1, hz2⟩ := info_parts info_u8
  obtain ⟨i1, hj', hy0, hy1, hy2⟩ := info_parts info_shard
  obtain ⟨a1, c1, rfl⟩ := hp.form
  obtain ⟨a2, c2, rfl⟩ := hq.form
  obtain ⟨da, dc, rfl⟩ := h.form
  have hAm : A.length = m := by have := hO.1; omega
  obtain ⟨hqn', hAn⟩ := even_two hO.2
  have hqn : Hid (q.length = p.length) := hqn'
  have hAn' : Hid (∀ i, i < A.length → (ro A i).length = p.length) := hAn
  have hAm' : Hid (A.length = m) := hAm
  rw [hqn.out] at hq ⊢
  rw [hAm] at h ⊢
  clear hqn' hAn hAm
  obtain ⟨n, hn⟩ : ∃ n, Hid (n = p.length) := ⟨_, rfl⟩
  rw [← hn.out] at hp hq hSp ⊢
  have A0 : Below w.heap.size w (w.alloc (.cells #[.slice a1 n c1, .slice a2 n c2] 35)) := (Below.refl _ _).alloc (Nat.le_refl _) _
  have HC := chkd_ok (hF.below A0) h1 h2 (h.below A0) (rs_lit2 (e := 35) rfl hp hq) hO rfl rfl
  rw [← hAm'.out] at HC
  rw [hAm'.out] at HC
  go_enter Try.func17, Try.ntmps17
  go_wp2_with fail
  refine HC.mono ?_
  rintro e w2 ⟨vs, rfl, hR, b2⟩
  have A2 : Below w2.heap.size w2 (w2.alloc (.cells #[.int .i64 (m : Int), .int .i64 (k : Int), vs] 52)) := (Below.refl _ _).alloc (Nat.le_refl _) _
  have B2 : Below w.heap.size w (w2.alloc (.cells #[.int .i64 (m : Int), .int .i64 (k : Int), vs] 52)) := below_lit (Below.next A0 b2) _
  have hR2 := hR.below A2
  obtain ⟨va, vc, rfl⟩ := hR.form
  obtain ⟨N, hN⟩ : ∃ N, Hid (N = (flat m k (parF k)).length) := ⟨_, rfl⟩
  rw [← hN.out] at hR2 B2 ⊢
  have hNm : Hid (N = m * k) := by show _ = _; rw [hN.out, flat_length]
  have X2 := Box.new w2 (m : Int) (k : Int) (.slice va N vc) 52
  have hl2 : w2.heap.size < (w2.alloc (.cells #[.int .i64 (m : Int), .int .i64 (k : Int), .slice va N vc] 52)).heap.size := by simp
  have hF2 := hF.below B2
  have hp2 := hp.below B2
  have hq2 := hq.below B2
  have h2' := h.below B2
  clear hF hp hq h HC hR b2 A2 A0 hO hN
  have hj0 : ¬ (j : Int) < 0 := by omega
  have hjk : ¬ (j : Int) ≥ (k : Int) := by omega
  go_wp2_with fail
  refine (add0_any _).mono ?_
  rintro e w3 ⟨fb, rfl, cf, hfb, hfl, b3⟩
  generalize w2.alloc (.cells #[.int .i64 (m : Int), .int .i64 (k : Int), .slice va N vc] 52) = w1 at *
  have B3 := Below.next B2 b3
  replace X2 := X2.below hl2 b3
  replace hl2 := Nat.lt_of_lt_of_le hl2 b3.size
  replace hR2 := hR2.below b3
  replace hF2 := hF2.below b3
  replace hp2 := hp2.below b3
  replace hq2 := hq2.below b3
  replace h2' := h2'.below b3
  clear b3 B2 hfb
  have hp3 : Rd w3 (.slice a1 p.length c1) p := by rw [← hn.out]; exact hp2
  have HC := cop_any hp3 (by rw [← hn.out]; omega)
  rw [← hn.out] at HC
  go_wp2_with fail
  refine HC.mono ?_
  rintro e w4 ⟨g1, rfl, hg1, hR4, b4⟩
  have cf4 := (b4.cell (p := ⟨fb, 0, none⟩) hfl).trans cf
  have hq4 := hq2.below b4
  have hap : Apart g1 (.slice a2 n c2) := hq2.apart hg1
  have hF4 := hF2.below b4
  have hbl := hF2.lt
  go_wp2_with fail
  refine (add1_any 1 hF4 (by omega) cf4 (by omega) (Nat.lt_of_lt_of_le hfl b4.size) hR4 hq4 hap (by rw [hqn.out, hn.out]) (by omega) rfl).mono ?_
  rintro e w5 ⟨rfl, O5, R5⟩
  have b5 : Below w3.heap.size w3 w5 := b4.trans (O5.below hg1)
  have HCh : Hid (Rd w5 (.slice (some ⟨g1, 0, none⟩) n n) (upto (fun t => co p t ^^^ co q t) n)) := (R5.congr fun t ht => by unfold addR; rw [if_pos ht, one_mu]).rd
  have hg15 : g1 < w5.heap.size := R5.lt.2
  replace X2 := X2.below hl2 b5
  replace hl2 := Nat.lt_of_lt_of_le hl2 b5.size
  replace hR2 := hR2.below b5
  replace hF2 := hF2.below b5
  replace h2' := h2'.below b5
  have cf5 := (b5.cell (p := ⟨fb, 0, none⟩) hfl).trans cf
  have hfl5 := Nat.lt_of_lt_of_le hfl b5.size
  have B5 := Below.next B3 b5
  clear HC hR4 b4 cf4 hq4 hap hF4 hbl O5 R5 b5 cf hfl B3 hp2 hq2 hp3
  go_wp2_with (at_make; go_loud (refine wpList_make_full _ rfl (.tmp 53) (.tmp 53) 23 rfl w5.heap.size 35 i1 (.slice none 0 0) 1 Try.underlying23 hj' hy0 hy1 _ _ _ _ m rfl rfl (by omega) (by omega) (by rw [hy2]; omega) (by unfold maxLen; omega) (Nat.le_refl _) ?_); intro w6 hown6 hgrow6)
  have HO6 : Hid (Os w6 w5.heap.size 35 5 (.slice (some ⟨w5.heap.size, 0, none⟩) m m) (updP m (parF k) j p q A 0)) := by
    show Os _ _ _ _ _ _
    rw [updP_zero]
    refine Os.blank hown6 fun y hy => ?_
    have e : (madeCells (Value.slice none 0 0).cells (m * 1)).toList = List.replicate m (.slice none 0 0) := by rw [Nat.mul_one]; exact toList_madeCells_one _ _
    rw [e] at hy
    exact List.eq_of_mem_replicate hy
  have HB6 : Hid (Below w5.heap.size w5 w6) := (Below.refl _ _).grown hgrow6 (Nat.le_refl _) (fun q hq => by cases hq)
  clear hown6 hgrow6
  obtain ⟨B, hBB⟩ : ∃ B, Hid (B = w5.heap.size) := ⟨_, rfl⟩
  rw [← hBB.out] at HO6 HB6 hl2 hfl5 hg15
  rw [← hBB.out]
  have HX : Hid (∀ wr, Below B w5 wr → Box wr w2.heap.size (m : Int) (k : Int) (.slice va N vc)) := fun wr hb => X2.below hl2 hb
  have HD : Hid (∀ wr, Below B w5 wr → Rs wr (.slice da m dc) A) := fun wr hb => h2'.below (by rw [← hBB.out]; exact hb)
  have HA : Hid (∀ wr, Below B w5 wr → Rd wr (.slice va N vc) (flat m k (parF k))) := fun wr hb => hR2.below (by rw [← hBB.out]; exact hb)
  have HF : Hid (∀ wr, Below B w5 wr → FieldAt wr b) := fun wr hb => hF2.below (by rw [← hBB.out]; exact hb)
  have HH : Hid (∀ wr, Below B w5 wr → Rd wr (.slice (some ⟨g1, 0, none⟩) n n) (upto (fun t => co p t ^^^ co q t) n)) := fun wr hb => HCh.out.below (by rw [← hBB.out]; exact hb)
  have HK : Hid (∀ wr, Below B w5 wr → wr.cell? ⟨fb, 0, none⟩ = some (.pointer (some ⟨b, 0, none⟩))) := fun wr hb => (hb.cell (p := ⟨fb, 0, none⟩) hfl5).trans cf5
  have hbB : b < B := by rw [hBB.out]; exact hF2.lt
  have hm256 : m ≤ 256 := by omega
  clear X2 h2' hR2 hF2 HCh cf5
  go_loopw [57] (fun i wr => ∃ r : Nat, r ≤ m ∧ i = .int .i64 r ∧ Os wr B 35 5 (.slice (some ⟨B, 0, none⟩) m m) (updP m (parF k) j p q A r) ∧ Below B w5 wr) (fun i _ => m - (intOf i).toNat)
  case atStart => exact ⟨0, by omega, rfl, HO6.out, HB6.out⟩
  case round =>
    obtain ⟨r, hr, rfl, hO, hB⟩ := hrel
    clear HO6 HB6
    have hszr : B ≤ wr.heap.size := by rw [hBB.out]; exact hB.size
    by_cases hlt : r < m
    · have hlt' : (r : Int) < (m : Int) := by omega
      have hrA : r < A.length := by rw [hAm'.out]; exact hlt
      obtain ⟨db, doff, xa, xc, eda, hdb, cr, rr⟩ := (HD.out _ hB).at hrA
      subst eda
      have hlen : (ro A r).length = n := by rw [hn.out]; exact hAn'.out r hrA
      have HC := cop_any rr (by rw [hlen]; omega)
      rw [hlen] at cr HC
      have hlen' : Hid _ := hlen
      clear hlen rr
      go_wp2_with fail
      refine HC.mono ?_
      rintro e w7 ⟨g, rfl, hg, hR7, b7⟩
      clear HC
      obtain ⟨y, cy, fy, hG7, hBG, hGr⟩ := hO.spot b7 (i := r) (by unfold updP; rw [mkL_length]; exact hlt)
      have hgB : g ≠ B := by omega
      have b8 : Below B w5 (w7.setCell ⟨B, r, none⟩ (.slice (some ⟨g, 0, none⟩) n n)) := (hB.trans (b7.mono hszr)).setCell (Nat.le_refl _) _
      have R8 : RowF (w7.setCell ⟨B, r, none⟩ (.slice (some ⟨g, 0, none⟩) n n)) wr.heap.size 5 g n n (co (ro A r)) := hR7.other hgB _
      have c8 : (w7.setCell ⟨B, r, none⟩ (.slice (some ⟨g, 0, none⟩) n n)).cell? ⟨B, r, none⟩ = some (.slice (some ⟨g, 0, none⟩) n n) := World.cell?_setCell_same w7 ⟨B, r, none⟩ _ cy
      have F8 := HF.out _ b8
      have K8 := HK.out _ b8
      have H8 := HH.out _ b8
      have x2 := (HX.out _ b8).c2
      have hfw : fb < (w7.setCell ⟨B, r, none⟩ (.slice (some ⟨g, 0, none⟩) n n)).heap.size := by simp; omega
      obtain ⟨T, hT⟩ : ∃ T, Hid (T = r * k + j) := ⟨_, rfl⟩
      have hTN : T < N := by rw [hT.out, hNm.out]; exact place_lt hlt hj
      have hNs : N ≤ 65536 := by rw [hNm.out]; exact mul_small (by omega) (by omega)
      obtain ⟨o', ho'⟩ : ∃ o', Hid (o' = r * k) := ⟨_, rfl⟩
      have hoT : o' + j = T := by rw [ho'.out, hT.out]
      have v0 : (r : Int) * (k : Int) = (o' : Int) := by rw [ho'.out]; exact_mod_cast rfl
      have v3 : (o' : Int) + (j : Int) = (T : Int) := by omega
      have v1 : IntKind.i64.wrap (o' : Int) = (o' : Int) := by rw [IntKind.wrap_i64]; omega
      have v2 : IntKind.i64.wrap (T : Int) = (T : Int) := by rw [IntKind.wrap_i64]; omega
      obtain ⟨ab, ao, eva, hab, ca⟩ := (HA.out _ b8).byte (i := T) (by rw [flat_length, ← hNm.out]; exact hTN)
      have eT : co (flat m k (parF k)) T = parF k r j := by rw [hT.out]; exact en_flat (parF k) hlt hj
      rw [eT] at ca
      subst eva
      have hTN' : (T : Int) < (N : Int) := by omega
      have hO' : Hid _ := hO
      have b7' : Hid _ := b7
      have hB' : Hid _ := hB
      clear hoT eT hO b7 hB b8 hR7
      go_wp2
      generalize hw8 : w7.setCell ⟨B, r, none⟩ (.slice (some ⟨g, 0, none⟩) n n) = w8 at *
      go_region_with ((go_at_call 39; go_loud (refine (add1_any (parF k r j) (F8.drewN _) (show b ≠ g by omega) K8 (show fb ≠ g by omega) hfw (R8.drewN _) (H8.drewN _) (apart_block (show g1 ≠ g by omega)) (upto_length _ _) (by omega) rfl).mono ?_); rintro e w9 ⟨rfl, O9, R9⟩))
      all_goals
        have O10 : Only g (w7.setCell ⟨B, r, none⟩ (.slice (some ⟨g, 0, none⟩) n n)) w9 := by rw [hw8]; exact ⟨O9.os, O9.tape, O9.output, O9.size, O9.block⟩
        have R10 := R9.base hszr
        have R11 : RowF w9 B 5 g n n (fun t => co (ro A r) t ^^^ mu (parF k r j) (co p t ^^^ co q t)) := R10.congr fun t ht => by unfold addR; rw [if_pos ht, co_upto_in ht]
        have R12 := OwnP.rowF R11
        have eR : upto (fun t => co (ro A r) t ^^^ mu (parF k r j) (co p t ^^^ co q t)) n = updR (parF k) j p q A r := by unfold updR; rw [hlen'.out]
        rw [eR] at R12
        have HOn : Hid (Os w9 B 35 5 (.slice (some ⟨B, 0, none⟩) m m) (updP m (parF k) j p q A (r + 1))) := by
          show Os _ _ _ _ _ _
          rw [← updP_step hlt]
          exact Os.put hO'.out b7'.out (by unfold updP; rw [mkL_length]; exact hlt) rfl hg O10 R12
        have HBn : Hid (Below B w5 w9) := ((hB'.out.trans (b7'.out.mono hszr)).setCell (p := ⟨B, r, none⟩) (Nat.le_refl _) _).trans (O10.below (by omega))
        clear hO' hB' b7' O9 R9 O10 R10 R11 R12 eR F8 K8 H8 R8 c8 x2 ca cy fy hw8
        go_wp2
        go_roundw
        case rel => exact ⟨r + 1, by omega, by go_num, HOn.out, HBn.out⟩
        case measure => simp [intOf]; omega
    · have hge : ¬ (r : Int) < (m : Int) := by omega
      have er : r = m := by omega
      rw [er, updP_all] at hO
      have HR : Hid (Rs wr (.slice (some ⟨B, 0, none⟩) m m) (updL m (parF k) j p q A)) := hO.rs
      have HBn : Hid (Below w.heap.size w wr) := B5.trans (hB.mono (by rw [hBB.out]; exact B5.size))
      clear hO hB er
      go_wp2
      exact bodyPost_ret (v := .tuple #[.slice (some ⟨B, 0, none⟩) m m, .int .i64 0]) (by simp [results, Try.results17, go_sem]) rfl ⟨_, rfl, HR.out, HBn.out⟩

end Go.Proofs.Ytehphjapahdalaa.Gf
