/- TEXTS JOINED: SeCD, SeRef, SeRefU. -/
import Derived.Test.YtgahaebfgmbckaaGreatTome8
namespace Go.Proofs.YtgahaebfgmbckaaGreat.Gf
set_option linter.unusedVariables false
set_option linter.unusedSimpArgs false
open Go.RowKit
/-- .. in new memory -/
def MakesUF (w : World) (N : Nat) (D : List UInt8) (X : Int) (e : Ending) (w' : World) : Prop := ∃ v, e = .returned (.tuple #[.int .i64 (N : Int), v, .int .i64 X]) ∧ Rd w' v D ∧ FarV w v ∧ Below w.heap.size w w'
/-- a part of bytes -/
theorem Rd.cutS {w : World} {b off n c : Nat} {p : List UInt8} (h : Rd w (.slice (some ⟨b, off, none⟩) n c) p) {i m c' : Nat} (hm : i + m ≤ p.length) (hi : 0 < p.length) (hc : c' = c - i) : Rd w (.slice (some ⟨b, off + i, none⟩) m c') ((p.drop i).take m) := by
  rcases h with ⟨a, c0, e, _⟩ | ⟨b', off', c0, h1, h2, h3, h4, h5, h6⟩
  · subst e; simp at hi
  · simp at h2
    obtain ⟨⟨rfl, rfl⟩, rfl, rfl⟩ := h2
    subst hc
    have hl : ((p.drop i).take m).length = m := by rw [List.length_take, List.length_drop]; omega
    by_cases h0 : m = 0
    · subst h0
      exact Or.inl ⟨_, _, rfl, rfl, by omega, fun e => by cases e⟩
    · refine Or.inr ⟨b, off + i, c - i, fun e => by rw [e] at hl; simp at hl; omega, by rw [hl], by rw [hl]; omega, by omega, h5, fun j hj => ?_⟩
      rw [hl] at hj
      rw [co_take hj, co_drop0, Nat.add_assoc]
      exact h6 (i + j) (by omega)
set_option maxRecDepth 100000 in
set_option maxHeartbeats 4000000 in
theorem sunpack_far {a : Int} {v : Value} {p : List UInt8} {w : World} (hp : Rd w v p) (hl : p.length ≤ 100000) : Calls Tryz.prog 95 #[.int .i64 a, v] w (MakesUF w (upN a p) (upD a p) (upX a p)) := by
  by_cases h12 : 12 ≤ p.length
  · rcases hp.form with ⟨va, vc, rfl⟩
    rcases hp with ⟨a', c', rfl, _⟩ | ⟨b, o, c', hp0, e0, h1, h2, h3, hpc⟩
    · simp at h12
    simp at e0
    obtain ⟨rfl, rfl⟩ := e0
    have hp : Rd w (.slice (some ⟨b, o, none⟩) p.length vc) p := Or.inr ⟨b, o, vc, hp0, rfl, h1, h2, h3, hpc⟩
    clear hpc hp0
    have hlt : ¬ (p.length : Int) < 12 := by omega
    obtain ⟨n4, hn4⟩ : ∃ n4, Hid (n4 = p.length - 4) := ⟨_, rfl⟩
    have hn5 : n4 + 4 = p.length := by have := hn4.out; omega
    have g0 : (p.length : Int) - 4 = (n4 : Int) := by omega
    have gw : IntKind.i64.wrap (n4 : Int) = (n4 : Int) := by rw [IntKind.wrap_i64]; omega
    have g1 : (n4 : Int) ≤ (p.length : Int) := by omega
    have g2 : (8 : Int) ≤ (n4 : Int) := by omega
    have g3 : 8 ≤ n4 := by omega
    have g4 : n4 ≤ vc := by omega
    have g5 : (n4 : Int) ≤ (vc : Int) := by omega
    have g6 : ¬ vc = 8 := by omega
    have hda : Rd w (.slice (some ⟨b, o + 8, none⟩) (n4 - 8) (vc - 8)) (daS p) := hp.cutS (i := 8) (m := n4 - 8) (by omega) (by omega) rfl |> (by rw [show daS p = (p.drop 8).take (n4 - 8) by unfold daS; congr 1; omega]; exact ·)
    have hdl := daS_length p
    by_cases hk : OkSe a ((epS p : Nat) : Int) (daS p).length
    · have px := pa_ok hk
      rw [Int.toNat_natCast] at px
      have hpk : (pkS a.toNat (epS p) (daS p)).length = p.length := by rw [pk_length]; omega
      by_cases hs : pkS a.toNat (epS p) (daS p) = p
      · have hu : OkUe a p := ⟨h12, hk, hs⟩
        rw [(up_ok hu).1, (up_ok hu).2.1, (up_ok hu).2.2]
        have ds : sameB (pkS a.toNat (epS p) (daS p)) p = true := decide_eq_true hs
        clear hs hu
        go_enter Tryz.func95, Tryz.ntmps95
        go_wp2_with fail
        refine (snum_any hp h12).mono ?_
        rintro e' w' ⟨rfl, rfl⟩
        go_wp2_with fail
        obtain ⟨wo, hwo⟩ : ∃ wo, wo = w' := ⟨_, rfl⟩
        subst hwo
        refine (spack_any hda).mono ?_
        rintro e' w1 ⟨v1, rfl, R1, B1⟩
        rw [px.1]
        rw [px.2] at R1
        obtain ⟨a1, c1, rfl⟩ := R1.form
        rw [hpk] at R1 ⊢
        replace hp := hp.below B1
        replace hda := hda.below B1
        go_wp2_with fail
        refine (beq_any R1 hp).mono ?_
        rintro e' w2 ⟨rfl, rfl⟩
        rw [ds]
        go_wp2_with fail
        obtain ⟨w1, hw1⟩ : ∃ w1, w1 = w2 := ⟨_, rfl⟩
        subst hw1
        have hn8 : n4 - 8 = (daS p).length := by omega
        rw [hn8] at hda ⊢
        refine (sclone_any hda (by omega)).mono ?_
        rintro e' w3 ⟨v3, rfl, R3, V3, B3⟩
        have HV : Hid (FarV wo v3) := fun x n c e => (V3 x n c e).imp id fun q => Nat.le_trans B1.size q
        have HB : Hid (Below wo.heap.size wo w3) := Below.step B1 B3
        clear R1 hp hda B1 B3 V3
        go_wp2
        go_ret3
        exact ⟨_, rfl, R3, HV.out, HB.out⟩
      · have hn : ¬ OkUe a p := fun h => hs h.2.2
        rw [(up_not hn).1, (up_not hn).2.1, (up_not hn).2.2]
        have ds : sameB (pkS a.toNat (epS p) (daS p)) p = false := decide_eq_false hs
        go_enter Tryz.func95, Tryz.ntmps95
        go_wp2_with fail
        refine (snum_any hp h12).mono ?_
        rintro e' w' ⟨rfl, rfl⟩
        go_wp2_with fail
        obtain ⟨wo, hwo⟩ : ∃ wo, wo = w' := ⟨_, rfl⟩
        subst hwo
        refine (spack_any hda).mono ?_
        rintro e' w1 ⟨v1, rfl, R1, B1⟩
        rw [px.1]
        rw [px.2] at R1
        obtain ⟨a1, c1, rfl⟩ := R1.form
        rw [hpk] at R1 ⊢
        replace hp := hp.below B1
        have HB : Hid (Below wo.heap.size wo w1) := B1
        clear hda B1
        go_wp2_with fail
        refine (beq_any R1 hp).mono ?_
        rintro e' w2 ⟨rfl, rfl⟩
        rw [ds]
        clear R1 hp
        go_wp2
        go_ret3
        exact ⟨_, rfl, rd_nil0, FarV.nil _ _ _, HB.out⟩
    · have px := pa_not hk
      have hn : ¬ OkUe a p := fun h => hk h.2.1
      rw [(up_not hn).1, (up_not hn).2.1, (up_not hn).2.2]
      go_enter Tryz.func95, Tryz.ntmps95
      go_wp2_with fail
      refine (snum_any hp h12).mono ?_
      rintro e' w' ⟨rfl, rfl⟩
      go_wp2_with fail
      obtain ⟨wo, hwo⟩ : ∃ wo, wo = w' := ⟨_, rfl⟩
      subst hwo
      refine (spack_any hda).mono ?_
      rintro e' w1 ⟨v1, rfl, R1, B1⟩
      rw [px.1]
      have HB : Hid (Below wo.heap.size wo w1) := B1
      clear hda B1 R1 hp
      go_wp2
      go_ret3
      exact ⟨_, rfl, rd_nil0, FarV.nil _ _ _, HB.out⟩
  · have hn : ¬ OkUe a p := fun h => h12 h.1
    rw [(up_not hn).1, (up_not hn).2.1, (up_not hn).2.2]
    obtain ⟨va, vc, rfl⟩ := hp.form
    have hlt : (p.length : Int) < 12 := by omega
    go_enter Tryz.func95, Tryz.ntmps95
    go_wp2
    go_ret3
    exact ⟨_, rfl, rd_nil0, FarV.nil _ _ _, Below.refl _ _⟩
end Go.Proofs.YtgahaebfgmbckaaGreat.Gf

namespace Go.Proofs.YtgahaebfgmbckaaGreat.Gf
set_option linter.unusedVariables false
set_option linter.unusedSimpArgs false
open Go.RowKit
theorem ownsF {w : World} {base e n : Nat} {v : Value} {xs : List Value} (h : w.ownsRow base e 1 v n xs) : ∃ a c, v = .slice a n c := by
  obtain ⟨_, ⟨hv, hn⟩ | ⟨g, cap, cur, hv, _⟩⟩ := h
  · exact ⟨none, 0, by rw [hv, hn]⟩
  · exact ⟨_, cap, hv⟩
theorem own_cat {w : World} {base e A E : Nat} {v : Value} {p : List UInt8} (h : w.ownsRow base e 1 v (8 + p.length) ((fo A ++ fo E).map vb ++ p.map vb)) (hl : (hdS A E p).length = p.length + 8) : w.ownsRow base e 1 v (hdS A E p).length ((hdS A E p).map vb) := by
  rw [hl, Nat.add_comm]
  have : (hdS A E p).map vb = (fo A ++ fo E).map vb ++ p.map vb := by
    unfold hdS
    simp
  rw [this]
  exact h
set_option maxRecDepth 100000 in
set_option maxHeartbeats 4000000 in
theorem rpack_far {a e : Int} {v : Value} {p : List UInt8} {w : World} (hp : Rd w v p) (hpl : p.length ≤ 100000) : Calls Tryz.prog 73 #[.int .i64 a, .int .i64 e, v] w (MakesSF w (paX a e p) (paR a e p)) := by
  obtain ⟨va, vc, rfl⟩ := hp.form
  by_cases ho : OkSe a e p.length
  · rw [(pa_ok ho).1, (pa_ok ho).2]
    obtain ⟨ha, he, hl⟩ := ho
    have a1 : ¬ a < 0 := by omega
    have a2 : ¬ a > 2147483647 := by omega
    have e1 : ¬ e < 0 := by omega
    have e2 : ¬ e > 2147483647 := by omega
    have hl' : ¬ (p.length : Int) > 4096 := by omega
    obtain ⟨i0, hi, hz0, hz1, hz2⟩ := info_parts info_u8
    obtain ⟨A, rfl⟩ : ∃ A : Nat, a = (A : Int) := ⟨a.toNat, by omega⟩
    obtain ⟨E, rfl⟩ : ∃ E : Nat, e = (E : Int) := ⟨e.toNat, by omega⟩
    rw [Int.toNat_natCast, Int.toNat_natCast]
    have wA : IntKind.u32.wrap (A : Int) = (A : Int) := by rw [IntKind.wrap_u32]; omega
    have wE : IntKind.u32.wrap (E : Int) = (E : Int) := by rw [IntKind.wrap_u32]; omega
    go_enter Tryz.func73, Tryz.ntmps73
    go_wp2_with fail
    refine (rfour_any (n := A) rfl).mono ?_
    rintro e' w1 ⟨v1, rfl, O1, B1⟩
    go_wp2_with fail
    refine (rfour_any (n := E) rfl).mono ?_
    rintro e' w2 ⟨v2, rfl, O2, B2⟩
    have R2 : Rd w2 v2 (fo E) := Rd.owned O2
    replace O1 := owns_later O1 B2
    have C2 : Below w.heap.size w w2 := Below.step B1 B2
    clear B1 B2 O2
    have hs2 := C2.size
    obtain ⟨k1, k2, rfl⟩ := ownsF O1
    obtain ⟨k3, k4, rfl⟩ := R2.form
    go_wp2_with (first
      | (at_builtin; refine wpList_append_rd _ rfl (.tmp 30) (.tmp 33) 32 rfl w.heap.size 5 i0 Tryz.underlying32 hi hz0 hz1 hz2 (.slice k1 4 k2) 4 _ rfl O1 (.slice k3 (fo E).length k4) (fo E) rfl R2 (by rw [fo_length]; decide) hs2 ?_; intro v3 w3 O3 G3; have C3 : Below w.heap.size w w3 := below_own C2 hs2 O1 G3; have hp3 : Rd w3 (.slice va p.length vc) p := hp.below C3; have hs3 := C3.size; replace O3 : w3.ownsRow w.heap.size 5 1 v3 8 ((fo A ++ fo E).map vb) := O3; obtain ⟨k5, k6, rfl⟩ := ownsF O3; clear O1 R2 G3)
      | (at_builtin; refine wpList_append_rd _ rfl (.tmp 34) (.tmp 35) 32 rfl w.heap.size 5 i0 Tryz.underlying32 hi hz0 hz1 hz2 (.slice k5 8 k6) 8 _ rfl O3 (.slice va p.length vc) p rfl hp3 (by omega) hs3 ?_; intro v4 w4 O4 G4; have C4 : Below w.heap.size w w4 := below_own C3 hs3 O3 G4; have hs4 := C4.size; replace O4 : w4.ownsRow w.heap.size 5 1 v4 (hdS A E p).length ((hdS A E p).map vb) := own_cat O4 (hdS_length A E p); obtain ⟨k7, k8, rfl⟩ := ownsF O4; clear O3 hp3 G4)
      | fail)
    have R4 := Rd.owned O4
    have hsl : Hid ((hdS A E p).length = p.length + 8) := hdS_length A E p
    refine (rsum_any R4 (by have := hsl.out; omega)).mono ?_
    rintro e' w5 ⟨rfl, rfl⟩
    go_wp2_with fail
    refine (rfour_any (n := more 0 (hdS A E p)) rfl).mono ?_
    rintro e' w6 ⟨v6, rfl, O6, B6⟩
    have R6 : Rd w6 v6 (fo (more 0 (hdS A E p))) := Rd.owned O6
    have C6 : Below w.heap.size w w6 := Below.step C4 B6
    have hs6 := C6.size
    replace O4 := owns_later O4 B6
    obtain ⟨k9, k10, rfl⟩ := R6.form
    clear R4 O6 B6
    generalize hfo : fo (more 0 (hdS A E p)) = f4 at *
    have HF : Hid (fo (more 0 (hdS A E p)) = f4) := hfo
    have hf4 : Hid (f4.length = 4) := by show _ = _; rw [← hfo]; rfl
    clear hfo
    go_wp2_with (first
      | (at_builtin; refine wpList_append_rd _ rfl (.tmp 37) (.tmp 40) 32 rfl w.heap.size 5 i0 Tryz.underlying32 hi hz0 hz1 hz2 (.slice k7 (hdS A E p).length k8) (hdS A E p).length _ rfl O4 (.slice k9 f4.length k10) f4 rfl R6 (by have := hsl.out; have := hf4.out; omega) hs6 ?_; intro v7 w7 O7 G7; have C7 : Hid (Below w.heap.size w w7) := below_own C6 hs6 O4 G7; have R7 : Hid (Rd w7 v7 (pkS A E p)) := (by show Rd _ _ _; unfold pkS; rw [HF.out]; refine Rd.owned (base := w.heap.size) (e := 5) ?_; rw [List.length_append, List.map_append]; exact O7); have F7 : Hid (FarV w v7) := FarV.own O7; clear O4 R6 G7 O7)
      | fail)
    go_ret2
    exact ⟨_, rfl, R7.out, F7.out, C7.out⟩
  · have hn := ho
    rw [(pa_not ho).1, (pa_not ho).2]
    unfold OkSe at hn
    by_cases a1 : a < 0
    · go_enter Tryz.func73, Tryz.ntmps73
      go_wp2
      go_ret2
      exact ⟨_, rfl, rd_nil0, FarV.nil _ _ _, Below.refl _ _⟩
    by_cases a2 : a > 2147483647
    · go_enter Tryz.func73, Tryz.ntmps73
      go_wp2
      go_ret2
      exact ⟨_, rfl, rd_nil0, FarV.nil _ _ _, Below.refl _ _⟩
    by_cases e1 : e < 0
    · go_enter Tryz.func73, Tryz.ntmps73
      go_wp2
      go_ret2
      exact ⟨_, rfl, rd_nil0, FarV.nil _ _ _, Below.refl _ _⟩
    by_cases e2 : e > 2147483647
    · go_enter Tryz.func73, Tryz.ntmps73
      go_wp2
      go_ret2
      exact ⟨_, rfl, rd_nil0, FarV.nil _ _ _, Below.refl _ _⟩
    have hl' : (p.length : Int) > 4096 := by omega
    clear hn ho
    go_enter Tryz.func73, Tryz.ntmps73
    go_wp2
    go_ret2
    exact ⟨_, rfl, rd_nil0, FarV.nil _ _ _, Below.refl _ _⟩
end Go.Proofs.YtgahaebfgmbckaaGreat.Gf

namespace Go.Proofs.YtgahaebfgmbckaaGreat.Gf
set_option linter.unusedVariables false
set_option linter.unusedSimpArgs false
open Go.RowKit
theorem not_gt31 {x : Nat} (h : x ≤ 2147483647) : ¬ (x : Int) > 2147483647 := by omega
theorem is_gt31 {x : Nat} (h : ¬ x ≤ 2147483647) : (x : Int) > 2147483647 := by omega
theorem bne_same {x y : Nat} (h : x = y) : ((x : Int) != (y : Int)) = false := by rw [h]; simp
theorem bne_other {x y : Nat} (h : ¬ x = y) : ((x : Int) != (y : Int)) = true := by simp; omega
/-- as 'MakesU'; the data are part of what was handed in -/
def MakesV11 (w : World) (u : Value) (N : Nat) (D : List UInt8) (X : Int) (e : Ending) (w' : World) : Prop := ∃ v, e = .returned (.tuple #[.int .i64 (N : Int), v, .int .i64 X]) ∧ Rd w' v D ∧ PartV u v ∧ Below w.heap.size w w'
set_option maxRecDepth 100000 in
set_option maxHeartbeats 4000000 in
theorem runpack_part {a : Int} {v : Value} {p : List UInt8} {w : World} (hp : Rd w v p) (hl : p.length ≤ 100000) : Calls Tryz.prog 74 #[.int .i64 a, v] w (MakesV11 w v (upN a p) (upD a p) (upX a p)) := by
  have HI : Hid (OkUe a p ↔ _) := okU_iff (a := a) (b := p)
  by_cases hb : 12 ≤ p.length ∧ p.length ≤ 4108 ∧ 0 ≤ a ∧ a ≤ 2147483647
  · obtain ⟨h12, hmx, a0, am⟩ := hb
    rcases hp.form with ⟨va, vc, rfl⟩
    rcases hp with ⟨a', c', rfl, _⟩ | ⟨b, o, c', hp0, e0, h1, h2, h3, hpc⟩
    · simp at h12
    simp at e0
    obtain ⟨rfl, rfl⟩ := e0
    have hp : Rd w (.slice (some ⟨b, o, none⟩) p.length vc) p := Or.inr ⟨b, o, vc, hp0, rfl, h1, h2, h3, hpc⟩
    clear hpc hp0
    obtain ⟨n4, hn4⟩ : ∃ n4, Hid (n4 = p.length - 4) := ⟨_, rfl⟩
    have hn5 : Hid (n4 + 4 = p.length) := by show _ = _; have := hn4.out; omega
    have PZ : Hid (p.length ≠ 0) := by show _ ≠ _; have := hn5.out; omega
    have hq : p.length - n4 = 4 := by have := hn5.out; omega
    have g0 : (p.length : Int) - 4 = (n4 : Int) := by have := hn5.out; omega
    have gw : IntKind.i64.wrap (n4 : Int) = (n4 : Int) := by rw [IntKind.wrap_i64]; have := hn5.out; omega
    have g1 : (n4 : Int) ≤ (p.length : Int) := by omega
    have g2 : (8 : Int) ≤ (n4 : Int) := by have := hn5.out; omega
    have g2' : ¬ (n4 : Int) < 8 := by omega
    have g2'' : ¬ (n4 : Int) > 4104 := by have := hn5.out; omega
    have g3 : 8 ≤ n4 := by omega
    have g4 : n4 ≤ vc := by have := hn5.out; omega
    have g5 : (n4 : Int) ≤ (vc : Int) := by omega
    have g6 : ¬ vc = 8 := by omega
    have g7 : ¬ vc = n4 := by have := hn5.out; omega
    have g8 : ¬ vc = 4 := by omega
    have g9 : (8 : Int) ≤ (vc : Int) := by omega
    have g10 : (4 : Int) ≤ (vc : Int) := by omega
    have g11 : 8 ≤ vc := by omega
    have g12 : 4 ≤ vc := by omega
    have a0' : ¬ a < 0 := by omega
    have am' : ¬ a > 2147483647 := by omega
    obtain ⟨A, rfl⟩ : ∃ A : Nat, a = (A : Int) := ⟨a.toNat, by omega⟩
    have wA : IntKind.u32.wrap (A : Int) = (A : Int) := by rw [IntKind.wrap_u32]; omega
    have hX : Hid (n4 - 8 = p.length - 12) := by show _ = _; have := hn5.out; omega
    have HR : Hid (∀ W, Below w.heap.size w W → Rd W (.slice (some ⟨b, o + 4, none⟩) 4 (vc - 4)) ((p.drop 4).take 4) ∧ Rd W (.slice (some ⟨b, o + n4, none⟩) 4 (vc - n4)) (p.drop (p.length - 4)) ∧ Rd W (.slice (some ⟨b, o, none⟩) n4 vc) (p.take (p.length - 4)) ∧ Rd W (.slice (some ⟨b, o, none⟩) 4 vc) (p.take 4) ∧ Rd W (.slice (some ⟨b, o + 8, none⟩) (n4 - 8) (vc - 8)) (daS p)) := by
      intro W hW
      have hp' := hp.below hW
      have := hn5.out
      refine ⟨hp'.cutS (i := 4) (m := 4) (by omega) (by omega) rfl, ?_, ?_, ?_, ?_⟩
      · have q := hp'.cutS (i := n4) (m := 4) (c' := vc - n4) (by omega) (by omega) rfl
        rw [List.take_of_length_le (by rw [List.length_drop]; omega)] at q
        rw [show p.length - 4 = n4 by omega]
        exact q
      · have q := hp'.cutS (i := 0) (m := n4) (c' := vc) (by omega) (by omega) rfl
        rw [show p.length - 4 = n4 by omega]
        exact q
      · have q := hp'.cutS (i := 0) (m := 4) (c' := vc) (by omega) (by omega) rfl
        exact q
      · have q := hp'.cutS (i := 8) (m := n4 - 8) (c' := vc - 8) (by omega) (by omega) rfl
        unfold daS
        rw [← hX.out]
        exact q
    have hE := epS_lt p
    have wE : IntKind.i64.wrap ((epS p : Nat) : Int) = ((epS p : Nat) : Int) := by rw [IntKind.wrap_i64]; omega
    have HE : Hid (nu ((p.drop 4).take 4) = epS p) := rfl
    have l1 : Hid (((p.drop 4).take 4).length = 4) := by show _ = _; rw [List.length_take, List.length_drop]; omega
    have l2 : Hid ((p.drop (p.length - 4)).length = 4) := by show _ = _; rw [List.length_drop]; omega
    have l3 : Hid ((p.take (p.length - 4)).length ≤ 1000000) := by show _ ≤ _; rw [List.length_take]; omega
    have l4 : Hid ((p.take 4).length = 4) := by show _ = _; rw [List.length_take]; omega
    have HN1 : Hid (∀ W, Below w.heap.size w W → Calls Tryz.prog 100 #[.slice (some ⟨b, o + n4, none⟩) 4 (vc - n4)] W fun e w' => e = .returned (.int .u32 ((nu (p.drop (p.length - 4)) : Nat) : Int)) ∧ Below w.heap.size w w') := fun W hW => (rnum_any (HR.out W hW).2.1 l2.out).mono fun e w' h => ⟨h.1, Below.step hW h.2⟩
    have HN2 : Hid (∀ W, Below w.heap.size w W → Calls Tryz.prog 99 #[.slice (some ⟨b, o, none⟩) n4 vc] W fun e w' => e = .returned (.int .u32 ((more 0 (p.take (p.length - 4)) : Nat) : Int)) ∧ Below w.heap.size w w') := fun W hW => (rsum_any (HR.out W hW).2.2.1 l3.out).mono fun e w' h => ⟨h.1, by rw [h.2]; exact hW⟩
    have HN3 : Hid (∀ W, Below w.heap.size w W → Calls Tryz.prog 100 #[.slice (some ⟨b, o, none⟩) 4 vc] W fun e w' => e = .returned (.int .u32 ((nu (p.take 4) : Nat) : Int)) ∧ Below w.heap.size w w') := fun W hW => (rnum_any (HR.out W hW).2.2.2.1 l4.out).mono fun e w' h => ⟨h.1, Below.step hW h.2⟩
    by_cases s1 : nu (p.drop (p.length - 4)) = more 0 (p.take (p.length - 4))
    · have d1 := bne_same s1
      by_cases s2 : nu (p.take 4) = A
      · have d2 := bne_same s2
        by_cases s3 : epS p ≤ 2147483647
        · have hu : OkUe (A : Int) p := HI.out.2 ⟨h12, hmx, a0, am, s1, s2, s3⟩
          rw [(up_ok hu).1, (up_ok hu).2.1, (up_ok hu).2.2]
          have s3' := not_gt31 s3
          clear HI hu s1 s2 s3
          go_enter Tryz.func74, Tryz.ntmps74
          go_wp2_with fail
          refine (rnum_any (HR.out _ (Below.refl _ _)).1 l1.out).mono ?_
          rintro e' w1 ⟨rfl, B1⟩
          rw [HE.out]
          go_wp2
          have B1' := B1.drew
          clear g0 gw g2' g2'' a0' am' B1 h12 hmx h1 h2 hl hE
          go_region_held3 (fun _ => True) (trivial) (first | (go_at_call_of 100 (Value.slice (some ⟨b, o + n4, none⟩) 4 (vc - n4)); refine (HN1.out _ (by assumption)).mono ?_; rintro e' w2 ⟨rfl, B2⟩) | (go_at_call_of 99 (Value.slice (some ⟨b, o, none⟩) n4 vc); refine (HN2.out _ (by assumption)).mono ?_; rintro e' w3 ⟨rfl, B3⟩) | (go_at_call_of 100 (Value.slice (some ⟨b, o, none⟩) 4 vc); refine (HN3.out _ (by assumption)).mono ?_; rintro e' w4 ⟨rfl, B4⟩))
          go_wp2
          have R5 := (HR.out _ B4.drew).2.2.2.2
          have B5 := B4.drew
          clear HR HN1 HN2 HN3 d1 d2 B1' B2 B3 hp
          go_region_held3 (fun _ => True) (trivial) (fail)
          go_wp2
          go_ret3
          exact ⟨_, rfl, R5, PartV.cut PZ.out, B5⟩
        · have s3' := is_gt31 s3
          have hn : ¬ OkUe (A : Int) p := fun h => s3 (HI.out.1 h).2.2.2.2.2.2
          rw [(up_not hn).1, (up_not hn).2.1, (up_not hn).2.2]
          clear HI hn s1 s2 s3
          go_enter Tryz.func74, Tryz.ntmps74
          go_wp2_with fail
          refine (rnum_any (HR.out _ (Below.refl _ _)).1 l1.out).mono ?_
          rintro e' w1 ⟨rfl, B1⟩
          rw [HE.out]
          go_wp2
          have B1' := B1.drew
          clear g0 gw g2' g2'' a0' am' B1 h12 hmx h1 h2 hl hE
          go_region_held3 (fun _ => True) (trivial) (first | (go_at_call_of 100 (Value.slice (some ⟨b, o + n4, none⟩) 4 (vc - n4)); refine (HN1.out _ (by assumption)).mono ?_; rintro e' w2 ⟨rfl, B2⟩) | (go_at_call_of 99 (Value.slice (some ⟨b, o, none⟩) n4 vc); refine (HN2.out _ (by assumption)).mono ?_; rintro e' w3 ⟨rfl, B3⟩) | (go_at_call_of 100 (Value.slice (some ⟨b, o, none⟩) 4 vc); refine (HN3.out _ (by assumption)).mono ?_; rintro e' w4 ⟨rfl, B4⟩))
          clear HR
          go_wp2
          go_ret3
          exact ⟨_, rfl, rd_nil0, PartV.nil _ _ _, B4⟩
      · have d2 := bne_other s2
        have hn : ¬ OkUe (A : Int) p := fun h => s2 (HI.out.1 h).2.2.2.2.2.1
        rw [(up_not hn).1, (up_not hn).2.1, (up_not hn).2.2]
        clear HI hn s1 s2
        go_enter Tryz.func74, Tryz.ntmps74
        go_wp2_with fail
        refine (rnum_any (HR.out _ (Below.refl _ _)).1 l1.out).mono ?_
        rintro e' w1 ⟨rfl, B1⟩
        rw [HE.out]
        go_wp2
        have B1' := B1.drew
        clear g0 gw g2' g2'' a0' am' B1 h12 hmx h1 h2 hl hE
        refine wp_region_held_drew (S := fun _ => True) (by kernel_rfl) trivial (fun hHeld => ?_)
        refine tkH 0 ?_
        refine tkH 1 ?_
        refine tkH 2 ?_
        refine tkH 4 ?_
        refine tkH 5 ?_
        refine tkH 6 ?_
        refine rnH 3 fun K hK => ?_
        go_simp
        refine (HN1.out _ (by assumption)).mono ?_
        rintro e' w2 ⟨rfl, B2⟩
        try go_simp
        refine hK.out _ _ trivial (fun hHeld => ?_)
        clear hK K
        try simp only [List.getElem_toArray, List.getElem_cons_succ, List.getElem_cons_zero, Act.put, List.setIfInBounds_toArray, List.set_cons_zero, List.set_cons_succ]
        refine rnH 7 fun K hK => ?_
        go_simp
        refine (HN2.out _ (by assumption)).mono ?_
        rintro e' w3 ⟨rfl, B3⟩
        try go_simp
        refine hK.out _ _ trivial (fun hHeld => ?_)
        clear hK K
        try simp only [List.getElem_toArray, List.getElem_cons_succ, List.getElem_cons_zero, Act.put, List.setIfInBounds_toArray, List.set_cons_zero, List.set_cons_succ]
        refine tkH 8 ?_
        refine tkH 9 ?_
        refine tkH 10 ?_
        refine tkH 11 ?_
        refine tkH 13 ?_
        refine tkH 14 ?_
        refine rnH 12 fun K hK => ?_
        go_simp
        refine (HN3.out _ (by assumption)).mono ?_
        rintro e' w4 ⟨rfl, B4⟩
        try go_simp
        refine hK.out _ _ trivial (fun hHeld => ?_)
        clear hK K
        try simp only [List.getElem_toArray, List.getElem_cons_succ, List.getElem_cons_zero, Act.put, List.setIfInBounds_toArray, List.set_cons_zero, List.set_cons_succ]
        refine tkH 15 ?_
        refine tkH 16 ?_
        refine tkH 17 ?_
        refine skH 18 ?_
        refine skH 19 ?_
        refine tkH 20 ?_
        refine wpAnyH_done (by kernel_rfl) ?_ _
        try simp only [List.getElem_toArray, List.getElem_cons_succ, List.getElem_cons_zero, Act.put, List.setIfInBounds_toArray, List.set_cons_zero, List.set_cons_succ]
        clear HR
        go_wp2
        go_ret3
        exact ⟨_, rfl, rd_nil0, PartV.nil _ _ _, B4⟩
    · have d1 := bne_other s1
      have hn : ¬ OkUe (A : Int) p := fun h => s1 (HI.out.1 h).2.2.2.2.1
      rw [(up_not hn).1, (up_not hn).2.1, (up_not hn).2.2]
      clear HI hn s1
      go_enter Tryz.func74, Tryz.ntmps74
      go_wp2_with fail
      refine (rnum_any (HR.out _ (Below.refl _ _)).1 l1.out).mono ?_
      rintro e' w1 ⟨rfl, B1⟩
      rw [HE.out]
      go_wp2
      have B1' := B1.drew
      clear g0 gw g2' g2'' a0' am' B1 h12 hmx h1 h2 hl hE
      refine wp_region_held_drew (S := fun _ => True) (by kernel_rfl) trivial (fun hHeld => ?_)
      refine tkH 0 ?_
      refine tkH 1 ?_
      refine tkH 2 ?_
      refine tkH 4 ?_
      refine tkH 5 ?_
      refine tkH 6 ?_
      refine rnH 3 fun K hK => ?_
      go_simp
      refine (HN1.out _ (by assumption)).mono ?_
      rintro e' w2 ⟨rfl, B2⟩
      try go_simp
      refine hK.out _ _ trivial (fun hHeld => ?_)
      clear hK K
      try simp only [List.getElem_toArray, List.getElem_cons_succ, List.getElem_cons_zero, Act.put, List.setIfInBounds_toArray, List.set_cons_zero, List.set_cons_succ]
      refine rnH 7 fun K hK => ?_
      go_simp
      refine (HN2.out _ (by assumption)).mono ?_
      rintro e' w3 ⟨rfl, B3⟩
      try go_simp
      refine hK.out _ _ trivial (fun hHeld => ?_)
      clear hK K
      try simp only [List.getElem_toArray, List.getElem_cons_succ, List.getElem_cons_zero, Act.put, List.setIfInBounds_toArray, List.set_cons_zero, List.set_cons_succ]
      refine tkH 8 ?_
      refine tkH 9 ?_
      refine skH 10 ?_
      refine skH 11 ?_
      refine skH 12 ?_
      refine skH 13 ?_
      refine skH 14 ?_
      refine skH 15 ?_
      refine tkH 16 ?_
      refine tkH 17 ?_
      refine skH 18 ?_
      refine skH 19 ?_
      refine tkH 20 ?_
      refine wpAnyH_done (by kernel_rfl) ?_ _
      try simp only [List.getElem_toArray, List.getElem_cons_succ, List.getElem_cons_zero, Act.put, List.setIfInBounds_toArray, List.set_cons_zero, List.set_cons_succ]
      clear HR
      go_wp2
      go_ret3
      exact ⟨_, rfl, rd_nil0, PartV.nil _ _ _, B3⟩
  · have hn : ¬ OkUe a p := fun h => hb (by have := HI.out.1 h; omega)
    rw [(up_not hn).1, (up_not hn).2.1, (up_not hn).2.2]
    clear HI hn
    obtain ⟨va, vc, rfl⟩ := hp.form
    have gw : IntKind.i64.wrap ((p.length : Int) - 4) = (p.length : Int) - 4 := by rw [IntKind.wrap_i64]; omega
    by_cases h1 : (p.length : Int) - 4 < 8
    · clear hb
      go_enter Tryz.func74, Tryz.ntmps74
      go_wp2
      go_ret3
      exact ⟨_, rfl, rd_nil0, PartV.nil _ _ _, Below.refl _ _⟩
    by_cases h2 : (p.length : Int) - 4 > 4104
    · clear hb
      go_enter Tryz.func74, Tryz.ntmps74
      go_wp2
      go_ret3
      exact ⟨_, rfl, rd_nil0, PartV.nil _ _ _, Below.refl _ _⟩
    by_cases h3 : a < 0
    · clear hb
      go_enter Tryz.func74, Tryz.ntmps74
      go_wp2
      go_ret3
      exact ⟨_, rfl, rd_nil0, PartV.nil _ _ _, Below.refl _ _⟩
    have h4 : a > 2147483647 := by omega
    clear hb
    go_enter Tryz.func74, Tryz.ntmps74
    go_wp2
    go_ret3
    exact ⟨_, rfl, rd_nil0, PartV.nil _ _ _, Below.refl _ _⟩
end Go.Proofs.YtgahaebfgmbckaaGreat.Gf
