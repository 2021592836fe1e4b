/- TEXTS JOINED: VoLaw, VoTl, VoCR. -/
import Derived.Test.YtgahaebfgmbckaaGreatTome31
import Derived.Test.YtgahaebfgmbckaaGreatTome32
import Derived.Test.YtgahaebfgmbckaaGreatTome34
namespace Go.Proofs.YtgahaebfgmbckaaGreat.Gf
set_option linter.unusedVariables false
set_option linter.unusedSimpArgs false
section
variable {a : ArS} {ad : Int} {b : List UInt8}
/-- all disks have so many sectors -/
def SizA (a : ArS) (s : Nat) : Prop := ∀ i : Nat, i < a.D.length → (diA a (i : Int)).s = s
theorem rdAX_at {i : Int} (ho : a.off = false) (ht : thA a i) : rdAX a i ad = faX (diA a i) ad := by
  unfold rdAX
  rw [if_neg (by rw [ho]; decide), if_pos ht]
theorem di_nat (i : Nat) : diA a (i : Int) = a.D.getD i default := rfl
/-- Mend's answer, by what is told -/
theorem md_top (ho : a.off = false) {e : Int} {d : List UInt8} (h : Top (sayL a ad) (sayL a ad).length e d) (K : List Bool) : mdP a K ad = puV a ad (pkS ad.toNat e.toNat d) (toV a ad e d) a.D.length := by
  unfold mdP
  rw [if_neg (by rw [ho]; decide), vo_top h K, if_pos rfl]
/-- all that is said is one thing -/
theorem top_one {e : Int} {d : List UInt8} {k : Nat} (hk : k < a.D.length) (hv : isV (sayV a ad k) e d = true) (h : ∀ i, i < a.D.length → (sayV a ad i).is = true → (sayV a ad i).ep = e ∧ (sayV a ad i).da = d) : Top (sayL a ad) (sayL a ad).length e d := by
  rw [sayL_length]
  refine ⟨⟨k, hk, by rw [sF_say hk]; exact hv⟩, fun j hj hs => ?_⟩
  rw [sF_say hj] at hs ⊢
  obtain ⟨h1, h2⟩ := h j hj hs
  rw [h1, h2]
  exact gt_irr
theorem okB_pk {x e : Int} {d : List UInt8} (h : OkSe x e d.length) : OkB (pkS x.toNat e.toNat d) := by
  have := h.2.2
  refine ⟨?_, ?_⟩
  · rw [pk_length]; omega
  · rw [pk_length]; omega
/-- a disk behind a write of a sector that it took -/
theorem say_wrote {a' : ArS} (ho : a'.off = false) {i : Nat} (hi : i < a'.D.length) {e : Int} {d : List UInt8} (hs : OkSe ad e d.length) {k : DkS} (hk : wrX k ad (pkS ad.toNat e.toNat d) = 0) (hd : diA a' (i : Int) = wrS k ad (pkS ad.toNat e.toNat d)) : sayV a' ad i = ⟨true, false, e, d⟩ := by
  obtain ⟨f1, f2⟩ := wrX_zero hk
  obtain ⟨q1, q2, q3⟩ := faX_zero f1
  refine say_at ho hi ?_ ?_ hs
  · rw [hd]
    exact faX_ok (by rw [wrS_dead]; exact q1) ⟨q2, by rw [wrS_s]; exact q3⟩
  · rw [hd, rdB_wr q1 q2 q3 f2, if_pos rfl]
theorem isV_mk {s : SaS} {e : Int} {d : List UInt8} (h : s = ⟨true, false, e, d⟩) : isV s e d = true := by rw [h]; exact isV_iff.2 ⟨rfl, rfl, rfl⟩
/-- behind a mend: the same is told, by all that are not dead, and a second one writes nothing -/
theorem mend_all (hc : Calm a) {s : Nat} (hs : SizA a s) {e : Int} {d : List UInt8} (h : Top (sayL a ad) (sayL a ad).length e d) :
    (mdP a [] ad).cr = false ∧ Calm (mdS a [] ad) ∧ (mdP a [] ad).n + cpV (sayL a ad) e d = cnt (fun i => !(diA a (i : Int)).dead) a.D.length ∧ (∀ i : Nat, i < a.D.length → (diA (mdS a [] ad) (i : Int)).dead = (diA a (i : Int)).dead) ∧ Top (sayL (mdS a [] ad) ad) (sayL (mdS a [] ad) ad).length e d ∧ cpV (sayL (mdS a [] ad) ad) e d = cnt (fun i => !(diA a (i : Int)).dead) a.D.length ∧ mdP (mdS a [] ad) [] ad = ⟨false, 0, mdS a [] ad⟩ := by
  have hse := top_se h
  have hP := md_top hc.1 h []
  obtain ⟨p1, p2, p3, p4⟩ := pu_calm (ad := ad) (b := pkS ad.toNat e.toNat d) hc (tO := toV a ad e d) a.D.length (Nat.le_refl _)
  have hl : (mdS a [] ad).D.length = a.D.length := mdS_len []
  obtain ⟨k, hk, k1, k2, k3⟩ := top_say h
  have hin := say_in hc.1 hk k1
  obtain ⟨_, i1, i2⟩ := faX_zero hin
  rw [hs k hk] at i2
  have okb := okB_pk hse
  have wr : ∀ i : Nat, i < a.D.length → (diA a (i : Int)).dead = false → wrX (diA a (i : Int)) ad (pkS ad.toNat e.toNat d) = 0 := fun i hi hd => wrX_ok hd i1 (by rw [hs i hi]; exact i2) okb
  have eS : mdS a [] ad = (puV a ad (pkS ad.toNat e.toNat d) (toV a ad e d) a.D.length).st := by unfold mdS; rw [hP]
  have hdi : ∀ i : Nat, i < a.D.length → diA (mdS a [] ad) (i : Int) = if toV a ad e d i = true then wrS (diA a (i : Int)) ad (pkS ad.toNat e.toNat d) else diA a (i : Int) := fun i hi => by
    rw [eS, p4 i]
    by_cases q : toV a ad e d i = true
    · rw [if_pos ⟨hi, q⟩, if_pos q]
    · rw [if_neg fun k => q k.2, if_neg q]
  have hde : ∀ i : Nat, i < a.D.length → (diA (mdS a [] ad) (i : Int)).dead = (diA a (i : Int)).dead := fun i hi => by
    rw [hdi i hi]
    split
    · exact wrS_dead
    · rfl
  have hcm : Calm (mdS a [] ad) := by rw [eS]; exact p2
  -- what each disk says then
  have hsay : ∀ i : Nat, i < a.D.length → (diA a (i : Int)).dead = false → isV (sayV (mdS a [] ad) ad i) e d = true := fun i hi hd => by
    by_cases q : toV a ad e d i = true
    · exact isV_mk (say_wrote hcm.1 (by rw [hl]; exact hi) hse (wr i hi hd) (by rw [hdi i hi, if_pos q]))
    · have hv : isV (sayV a ad i) e d = true := by
        have q' : toV a ad e d i = false := by simpa using q
        unfold toV at q'
        rw [hd] at q'
        simpa using q'
      have e1 : diA (mdS a [] ad) (i : Int) = diA a (i : Int) := by rw [hdi i hi, if_neg q]
      have ht : thA a (i : Int) := ⟨by omega, by omega⟩
      have ht' : thA (mdS a [] ad) (i : Int) := ⟨by omega, by rw [hl]; omega⟩
      have e2 : sayV (mdS a [] ad) ad i = sayV a ad i := by
        have x1 : rdAX (mdS a [] ad) (i : Int) ad = rdAX a (i : Int) ad := by
          rw [rdAX_at hcm.1 ht', rdAX_at hc.1 ht, e1]
        have x2 : rdAB (mdS a [] ad) (i : Int) ad = rdAB a (i : Int) ad := by rw [rd_at hcm.1 ht', rd_at hc.1 ht, e1]
        unfold sayV
        rw [x1, x2]
      rw [e2]; exact hv
  have hnone : ∀ i : Nat, i < a.D.length → (diA a (i : Int)).dead = true → (sayV (mdS a [] ad) ad i).is = false := fun i hi hd => say_dead hcm.1 (by rw [hl]; exact hi) (by rw [hde i hi]; exact hd)
  have hkd : (diA a (k : Int)).dead = false := (faX_zero hin).1
  have T2 : Top (sayL (mdS a [] ad) ad) (sayL (mdS a [] ad) ad).length e d := by
    refine top_one (k := k) (by rw [hl]; exact hk) (hsay k hk hkd) fun i hi hx => ?_
    rw [hl] at hi
    cases hd : (diA a (i : Int)).dead with
    | true => rw [hnone i hi hd] at hx; cases hx
    | false => exact (isV_iff.1 (hsay i hi hd)).2
  refine ⟨by rw [hP]; exact p1, hcm, ?_, hde, T2, ?_, ?_⟩
  · rw [hP, p3, cp_say]
    have hsum := cnt_or_eq (fun i => toV a ad e d i && decide (wrX (diA a (i : Int)) ad (pkS ad.toNat e.toNat d) = 0)) (fun i => isV (sayV a ad i) e d) a.D.length (fun i hi hp => by
      rw [Bool.and_eq_true] at hp
      have := hp.1
      unfold toV at this
      rw [Bool.and_eq_true] at this
      simpa using this.2)
    rw [← hsum]
    refine cnt_congr fun i hi => ?_
    cases hd : (diA a (i : Int)).dead with
    | true =>
      have n1 : isV (sayV a ad i) e d = false := by
        cases q : isV (sayV a ad i) e d with
        | false => rfl
        | true =>
          have := (isV_iff.1 q).1
          rw [say_dead hc.1 hi hd] at this; cases this
      have n2 : toV a ad e d i = false := by unfold toV; rw [hd]; rfl
      rw [n1, n2]; rfl
    | false =>
      rw [decide_eq_true (wr i hi hd), Bool.and_true]
      unfold toV
      rw [hd]
      cases isV (sayV a ad i) e d <;> rfl
  · rw [cp_say, hl]
    refine cnt_congr fun i hi => ?_
    cases hd : (diA a (i : Int)).dead with
    | true =>
      cases q : isV (sayV (mdS a [] ad) ad i) e d with
      | false => rfl
      | true =>
        have := (isV_iff.1 q).1
        rw [hnone i hi hd] at this; cases this
    | false => rw [hsay i hi hd]; rfl
  · rw [md_top hcm.1 T2 []]
    refine puV_none _ fun i hi => ?_
    rw [hl] at hi
    unfold toV
    cases hd : (diA a (i : Int)).dead with
    | true => rw [hde i hi, hd]; rfl
    | false => rw [hsay i hi hd]; simp
end
end Go.Proofs.YtgahaebfgmbckaaGreat.Gf

namespace Go.Proofs.YtgahaebfgmbckaaGreat.Gf
set_option linter.unusedVariables false
set_option linter.unusedSimpArgs false
open Go.RowKit
def TellsVF (w : World) (X : Int) (V : VoS) (e : Ending) (w' : World) : Prop := ∃ vd, e = .returned (.tuple #[aggV V vd, .int .i64 X]) ∧ Rd w' vd V.da ∧ FarV w vd ∧ Below w.heap.size w w'
/-- a write on new disks, however many sectors they have -/
theorem wrote_new {n s : Nat} {ad e : Int} {d : List UInt8} (hn : 1 ≤ n) (hs : OkSe ad e d.length) (ha : ad < (s : Int)) :
    wvX (newA n s) ad e d = 0 ∧ wvN (newA n s) ad e d = (n : Int) ∧ Calm (wvS (newA n s) ad e d) ∧ (wvS (newA n s) ad e d).D.length = n ∧ ∀ i : Nat, i < n → diA (wvS (newA n s) ad e d) (i : Int) = wrS (newD s) ad (pkS ad.toNat e.toNat d) := by
  have hl : (newA n s).D.length = n := by simp [newA]
  have hd : ∀ i : Nat, i < n → diA (newA n s) (i : Int) = newD s := fun i hi => by
    rw [di_nat]
    show (List.replicate n (newD s)).getD i default = _
    simp [List.getD, hi]
  obtain ⟨p1, p2, p3, p4⟩ := pu_calm (ad := ad) (b := pkS ad.toNat e.toNat d) (calm_new n s) (tO := fun _ => true) n (by rw [hl]; exact Nat.le_refl _)
  have eP : wvP (newA n s) ad e d = puV (newA n s) ad (pkS ad.toNat e.toNat d) (fun _ => true) n := by unfold wvP; rw [if_pos hs, hl]
  have ok := okB_pk hs
  refine ⟨?_, ?_, ?_, by rw [wvS_len, hl], fun i hi => ?_⟩
  · unfold wvX; rw [if_pos hs, eP]; unfold puE; rw [p1]; rfl
  · unfold wvN puN
    rw [eP, p1, if_neg (by decide), p3, cnt_full fun i hi => ?_]
    show (true && decide (wrX (diA (newA n s) (i : Int)) ad _ = 0)) = true
    rw [hd i hi, decide_eq_true (wrX_ok rfl hs.1.1 ha ok)]
    rfl
  · unfold wvS; rw [eP]; exact p2
  · unfold wvS
    rw [eP, p4 i, if_pos ⟨hi, rfl⟩, hd i hi]
/-- the states of 'awake' -/
def vwB : List UInt8 := pkS (1 : Int).toNat (5 : Int).toNat [7]
def vw1 : ArS := wvS (newA 3 4) 1 5 [7]
def vw2 : ArS := rpAS vw1 0
def vw3 : ArS := mdS vw2 [] 1
theorem vw_se : OkSe 1 5 ([7] : List UInt8).length := by decide
theorem vw_1 : wvX (newA 3 4) 1 5 [7] = 0 ∧ wvN (newA 3 4) 1 5 [7] = 3 ∧ Calm vw1 ∧ vw1.D.length = 3 ∧ ∀ i : Nat, i < 3 → diA vw1 (i : Int) = wrS (newD 4) 1 (vwB) := wrote_new (by decide) vw_se (by decide)
theorem vw_okb : OkB vwB := okB_pk (x := 1) (e := 5) (d := [7]) vw_se
theorem vw_wr : wrX (newD 4) 1 vwB = 0 := wrX_ok (d := newD 4) (ad := 1) (b := vwB) rfl (by decide) (by decide) vw_okb
theorem vw_s1 {i : Nat} (hi : i < 3) : sayV vw1 1 i = ⟨true, false, 5, [7]⟩ := say_wrote (e := 5) (d := [7]) vw_1.2.2.1.1 (by rw [vw_1.2.2.2.1]; exact hi) vw_se vw_wr (vw_1.2.2.2.2 i hi)
theorem vw_t1 : Top (sayL vw1 1) (sayL vw1 1).length 5 [7] := top_one (k := 0) (by rw [vw_1.2.2.2.1]; decide) (isV_mk (vw_s1 (by decide))) fun i hi _ => by rw [vw_1.2.2.2.1] at hi; rw [vw_s1 hi]; exact ⟨rfl, rfl⟩
theorem vw_r1 : rvX vw1 = 0 ∧ rvV vw1 [true] 1 = ⟨true, 5, [7], 3, true⟩ := by
  refine ⟨if_neg (by rw [vw_1.2.2.1.1]; decide), ?_⟩
  unfold rvV
  rw [if_neg (by rw [vw_1.2.2.1.1]; decide), vo_top vw_t1 [true], sayL_length, vw_1.2.2.2.1]
  have e1 : cpV (sayL vw1 1) 5 [7] = 3 := by
    rw [cp_say, vw_1.2.2.2.1, cnt_full fun i hi => isV_mk (vw_s1 hi)]
  have e2 : wiF (sayL vw1 1) [true] 3 = true := by
    have h0 : sF (sayL vw1 1) 0 = ⟨true, false, 5, [7]⟩ := by rw [sF_say (by rw [vw_1.2.2.2.1]; decide), vw_s1 (by decide)]
    simp [wiF, h0, hb]
  rw [e1, e2]
theorem vw_d2 {i : Nat} (hi : i < 3) : diA vw2 (i : Int) = if i = 0 then reS (wrS (newD 4) 1 (vwB)) else wrS (newD 4) 1 (vwB) := by
  have ht : thA vw1 0 := ⟨by decide, by rw [vw_1.2.2.2.1]; decide⟩
  show diA (rpAS vw1 0) (i : Int) = _
  unfold rpAS
  rw [if_pos ht, diA_born, diA_set ht _ (by omega)]
  by_cases e : i = 0
  · subst e
    rw [if_pos (show ((0 : Nat) : Int) = 0 from rfl), if_pos rfl]
    exact congrArg reS (vw_1.2.2.2.2 0 (by decide))
  · rw [if_neg (by omega), if_neg e]
    exact vw_1.2.2.2.2 i hi
theorem vw_c2 : Calm vw2 ∧ vw2.D.length = 3 ∧ SizA vw2 4 := by
  have ht : thA vw1 0 := ⟨by decide, by rw [vw_1.2.2.2.1]; decide⟩
  have hc : Calm vw2 := by
    show Calm (rpAS vw1 0)
    unfold rpAS
    rw [if_pos ht]
    exact vw_1.2.2.1
  have hl : vw2.D.length = 3 := by
    show (rpAS vw1 0).D.length = 3
    unfold rpAS
    rw [if_pos ht]
    show (setA vw1 0 _).D.length = 3
    rw [setA_len, vw_1.2.2.2.1]
  refine ⟨hc, hl, fun i hi => ?_⟩
  rw [hl] at hi
  rw [vw_d2 hi]
  split
  · exact wrS_s _ _ _
  · exact wrS_s _ _ _
theorem vw_s2 {i : Nat} (hi : i < 3) (h : i ≠ 0) : sayV vw2 1 i = ⟨true, false, 5, [7]⟩ := say_wrote (e := 5) (d := [7]) vw_c2.1.1 (by rw [vw_c2.2.1]; exact hi) vw_se vw_wr (by rw [vw_d2 hi, if_neg h]; rfl)
theorem vw_s20 : (sayV vw2 1 0).is = false := say_no vw_c2.1.1 (by rw [vw_c2.2.1]; decide) (by
  rw [vw_d2 (by decide), if_pos rfl]
  have : rdB (reS (wrS (newD 4) 1 (vwB))) 1 = [] := by
    unfold rdB
    split <;> rfl
  rw [this]
  intro u
  have := u.1
  simp at this)
theorem vw_t2 : Top (sayL vw2 1) (sayL vw2 1).length 5 [7] := top_one (k := 1) (by rw [vw_c2.2.1]; decide) (isV_mk (vw_s2 (by decide) (by decide))) fun i hi hx => by
  rw [vw_c2.2.1] at hi
  by_cases e : i = 0
  · rw [e, vw_s20] at hx; cases hx
  · rw [vw_s2 hi e]; exact ⟨rfl, rfl⟩
theorem vw_cp2 : cpV (sayL vw2 1) 5 [7] = 2 := by
  rw [cp_say, vw_c2.2.1]
  have h0 : isV (sayV vw2 1 0) 5 [7] = false := by
    cases q : isV (sayV vw2 1 0) 5 [7] with
    | false => rfl
    | true => have := (isV_iff.1 q).1; rw [vw_s20] at this; cases this
  have h1 := isV_mk (vw_s2 (i := 1) (by decide) (by decide))
  have h2 := isV_mk (vw_s2 (i := 2) (by decide) (by decide))
  simp [cnt, h0, h1, h2]
theorem vw_r2 : rvX vw2 = 0 ∧ rvV vw2 [] 1 = ⟨true, 5, [7], 2, false⟩ := by
  refine ⟨if_neg (by rw [vw_c2.1.1]; decide), ?_⟩
  unfold rvV
  rw [if_neg (by rw [vw_c2.1.1]; decide), vo_top vw_t2 [], vw_cp2, wi_nil]
theorem vw_m : mdX vw2 [] 1 = 0 ∧ mdN vw2 [] 1 = 1 ∧ Calm vw3 := by
  obtain ⟨m1, m2, m3, _⟩ := mend_all vw_c2.1 vw_c2.2.2 vw_t2
  have hn : cnt (fun i => !(diA vw2 (i : Int)).dead) vw2.D.length = 3 := by
    rw [vw_c2.2.1, cnt_full fun i hi => ?_]
    rw [vw_d2 hi]
    have : (wrS (newD 4) 1 (vwB)).dead = false := wrS_dead
    split
    · rfl
    · rw [this]; rfl
  rw [hn, vw_cp2] at m3
  refine ⟨?_, ?_, m2⟩
  · unfold mdX puE; rw [m1]; rfl
  · unfold mdN puN
    rw [m1, if_neg (by decide), show (mdP vw2 [] 1).n = 1 by omega]
    rfl
/-- what a mend of one place leaves at another one -/
theorem vw_r3 : rvX vw3 = 0 ∧ rvV vw3 [] 2 = ⟨false, 0, [], 0, false⟩ := by
  have hc := vw_m.2.2
  have hl : vw3.D.length = 3 := (mdS_len (a := vw2) (ad := 1) []).trans vw_c2.2.1
  refine ⟨if_neg (by rw [hc.1]; decide), ?_⟩
  have eP := md_top vw_c2.1.1 vw_t2 []
  obtain ⟨_, _, _, p4⟩ := pu_calm (ad := 1) (b := vwB) vw_c2.1 (tO := toV vw2 1 5 [7]) vw2.D.length (Nat.le_refl _)
  have key : ∀ i : Nat, i < 3 → rdB (diA vw3 (i : Int)) 2 = [] := fun i hi => by
    have e3 : diA vw3 (i : Int) = if i < vw2.D.length ∧ toV vw2 1 5 [7] i = true then wrS (diA vw2 (i : Int)) 1 (vwB) else diA vw2 (i : Int) := by
      show diA (mdS vw2 [] 1) (i : Int) = _
      unfold mdS
      rw [eP]
      exact p4 i
    have d2 := vw_d2 hi
    have base : rdB (diA vw2 (i : Int)) 2 = [] ∧ (diA vw2 (i : Int)).dead = false ∧ (diA vw2 (i : Int)).s = 4 := by
      rw [d2]
      split
      · exact ⟨by unfold rdB; split <;> rfl, rfl, wrS_s _ _ _⟩
      · refine ⟨?_, wrS_dead, wrS_s _ _ _⟩
        rw [rdB_wr rfl (by decide) (by decide) vw_okb, if_neg (by decide)]
        rfl
    rw [e3]
    split
    · rw [rdB_wr base.2.1 (by decide) (by rw [base.2.2]; decide) vw_okb, if_neg (by decide)]
      exact base.1
    · exact base.1
  unfold rvV
  rw [if_neg (by rw [hc.1]; decide), vo_none (fun i hi => ?_) [], wi_nil]
  rw [sayL_length, hl] at hi
  rw [sF_say (by rw [hl]; exact hi)]
  refine say_no hc.1 (by rw [hl]; exact hi) ?_
  rw [key i hi]
  intro u
  have := u.1
  simp at this
end Go.Proofs.YtgahaebfgmbckaaGreat.Gf

namespace Go.Proofs.YtgahaebfgmbckaaGreat.Gf
set_option linter.unusedVariables false
set_option linter.unusedSimpArgs false
open Go.RowKit Go.Shelf
theorem okL17_say {a : ArS} {ad : Int} : OkL17 (sayL a ad) := fun i hi hs => by
  rw [sayL_length] at hi
  rw [sF_say hi] at hs ⊢
  obtain ⟨_, ⟨h1, h2⟩, h3⟩ := (say_ok hs).1
  exact ⟨h1, h2, h3⟩
theorem RpRow.say {w : World} {g n : Nat} {a : ArS} {ad : Int} (hn : n = a.D.length) (h : RpRow w g n (fun i => rpS (sayV a ad i))) : RpRow w g n (fun i => rpS (sF (sayL a ad) i)) := h.congr fun i hi => by rw [sF_say (by rw [← hn]; exact hi)]
theorem lay5 {w : World} {a b c d e : Value} {t : Nat} : (w.alloc (.cells #[a, b, c, d, e] t)).cell? ⟨w.heap.size, 0, none⟩ = some a ∧ (w.alloc (.cells #[a, b, c, d, e] t)).cell? ⟨w.heap.size, 1, none⟩ = some b ∧ (w.alloc (.cells #[a, b, c, d, e] t)).cell? ⟨w.heap.size, 2, none⟩ = some c ∧ (w.alloc (.cells #[a, b, c, d, e] t)).cell? ⟨w.heap.size, 3, none⟩ = some d ∧ (w.alloc (.cells #[a, b, c, d, e] t)).cell? ⟨w.heap.size, 4, none⟩ = some e ∧ Below w.heap.size w (w.alloc (.cells #[a, b, c, d, e] t)) ∧ (∀ j, (w.alloc (.cells #[a, b, c, d, e] t)).frozen? ⟨w.heap.size, j, none⟩ = false) ∧ w.heap.size < (w.alloc (.cells #[a, b, c, d, e] t)).heap.size := by
  have z : ∀ j, (w.alloc (.cells #[a, b, c, d, e] t)).cell? ⟨w.heap.size, j, none⟩ = #[a, b, c, d, e][j]? := fun j => World.cell?_alloc_new _ _ _ _
  exact ⟨z 0, z 1, z 2, z 3, z 4, belR _ _, fun j => by simp [go_sem], by simp⟩
theorem vr_tail {p : Prop} (h : p := by
  refine koH hK sF' fun hHeld => ?_
  clear hK K'
  refine tkH 11 ?_
  obtain ⟨y0, y1, y2, y3, y4, yf⟩ := CY.out w4 (CV.out w4 bF)
  have f0 := yf 0
  have f1 := yf 1
  have f2 := yf 2
  have f3 := yf 3
  have f4 := yf 4
  refine rnH 12 fun K' hK => ?_
  go_simp
  obtain ⟨X, hX⟩ : ∃ X, X = ((((w4.setCell ⟨rb, 0, none⟩ (.bool (decide (0 < N)))).setCell ⟨rb, 1, none⟩ (.int .i64 E)).setCell ⟨rb, 2, none⟩ (.slice (some ⟨bd, 0, none⟩) D.length kF)).setCell ⟨rb, 3, none⟩ (.int .i64 (N : Int))).setCell ⟨rb, 4, none⟩ (.bool Z) := ⟨_, rfl⟩
  obtain ⟨oX, x0, x1, x2, x3, x4⟩ := set5 y0 y1 y2 y3 y4 hX
  have sX := HKO.out _ _ oX sF'
  have F : Hid (TellsVF w (rvX a) (rvV a K ad) (.returned (.tuple #[.agg #[.bool (decide (0 < N)), .int .i64 E, .slice (some ⟨bd, 0, none⟩) D.length kF, .int .i64 (N : Int), .bool Z], .int .i64 0])) X) := by
    show TellsVF _ _ _ _ _
    have z1 := BV.size
    have z2 := lF.out
    have z3 := hrb.out
    have z4 := LV.out
    rw [HV.out.1, HV.out.2]
    refine ⟨_, rfl, ?_, fun x n' c' e => ?_, (BV.step16 bF BV.size).trans (oX.below (by omega))⟩
    · exact rF.only (apart_block (by omega)) oX
    · simp at e
      obtain ⟨rfl, _⟩ := e
      exact Or.inr (by show w.heap.size ≤ bd; omega)
  rw [← hX]
  refine koH hK sX fun hHeld => ?_
  clear hK K' hX y0 y1 y2 y3 y4 yf f0 f1 f2 f3 f4 oX bF sF' rF lF
  refine tkH 13 ?_
  refine wpAnyH_done (by kernel_rfl) ?_ _
  clear sX HV HKO LV CY CV SE BV hHeld
  go_wp2
  exact bodyPost_ret (v := .tuple #[.agg #[.bool (decide (0 < N)), .int .i64 E, .slice (some ⟨bd, 0, none⟩) D.length kF, .int .i64 (N : Int), .bool Z], .int .i64 0]) (by simp [results, x0, x1, x2, x3, x4, go_sem, Tryz.results11]) rfl F.out) : p := h
set_option maxRecDepth 100000 in
set_option maxHeartbeats 4000000 in
theorem vread17_any {w : World} {ab : Nat} {GA : Nat → Prop} {a : ArS} (h : ArAt w ab GA a) {ad : Int} (ha : (Lit.int .i64 ad).wf = true) {u : Value} {K : List Bool} (hk : RdB w u K) :
    Calls Tryz.prog 11 #[.pointer (some ⟨ab, 0, none⟩), u, .int .i64 ad] w (TellsVF w (rvX a) (rvV a K ad)) := by
  have d2 := h.ok.d2
  obtain ⟨W, hW⟩ : ∃ W, W = w.alloc (.cells #[.bool false, .int .i64 0, .slice none 0 0, .int .i64 0, .bool false] 45) := ⟨_, rfl⟩
  obtain ⟨y0, y1, y2, y3, y4, BW, yf, lW⟩ := @lay5 w (.bool false) (.int .i64 0) (.slice none 0 0) (.int .i64 0) (.bool false) 45
  rw [← hW] at y0 y1 y2 y3 y4 BW yf lW
  have KQ := vask_any (h.below BW) ha
  have HK : Hid (RdB w u K) := hk
  obtain ⟨ua, uc, eu⟩ := hk.form
  subst eu
  obtain ⟨n, hn⟩ : ∃ n, Hid (n = a.D.length) := ⟨_, rfl⟩
  rw [← hn.out] at d2
  obtain ⟨rb, hrb⟩ : ∃ rb, Hid (rb = w.heap.size) := ⟨_, rfl⟩
  rw [← hrb.out] at y0 y1 y2 y3 y4 yf lW
  clear h hk
  go_enter Tryz.func11, Tryz.ntmps11
  go_wp2_with fail
  rw [← hW, ← hrb.out]
  clear hW
  refine KQ.mono ?_
  have CY : Hid (∀ W1, Below W.heap.size W W1 → W1.cell? ⟨rb, 0, none⟩ = some (.bool false) ∧ W1.cell? ⟨rb, 1, none⟩ = some (.int .i64 0) ∧ W1.cell? ⟨rb, 2, none⟩ = some (.slice none 0 0) ∧ W1.cell? ⟨rb, 3, none⟩ = some (.int .i64 0) ∧ W1.cell? ⟨rb, 4, none⟩ = some (.bool false) ∧ ∀ j, W1.frozen? ⟨rb, j, none⟩ = false) := fun W1 b =>
    ⟨(b.cell (p := ⟨rb, 0, none⟩) lW).trans y0, (b.cell (p := ⟨rb, 1, none⟩) lW).trans y1, (b.cell (p := ⟨rb, 2, none⟩) lW).trans y2, (b.cell (p := ⟨rb, 3, none⟩) lW).trans y3, (b.cell (p := ⟨rb, 4, none⟩) lW).trans y4, fun j => (b.frozen (p := ⟨rb, j, none⟩) lW).trans (yf j)⟩
  clear y0 y1 y2 y3 y4 yf
  rintro _ w1 (⟨ho, va, vn, vc, rfl, B1⟩ | ⟨ho, g, rfl, R1, lg, B1⟩)
  · obtain ⟨y0, y1, y2, y3, y4, yf⟩ := CY.out w1 B1
    have f0 := yf 0
    have f1 := yf 1
    have f2 := yf 2
    have f3 := yf 3
    have f4 := yf 4
    obtain ⟨X, hX⟩ : ∃ X, X = ((((w1.setCell ⟨rb, 0, none⟩ (.bool false)).setCell ⟨rb, 1, none⟩ (.int .i64 0)).setCell ⟨rb, 2, none⟩ (.slice none 0 0)).setCell ⟨rb, 3, none⟩ (.int .i64 0)).setCell ⟨rb, 4, none⟩ (.bool false) := ⟨_, rfl⟩
    obtain ⟨oX, x0, x1, x2, x3, x4⟩ := set5 y0 y1 y2 y3 y4 hX
    have F : Hid (TellsVF w (rvX a) (rvV a K ad) (.returned (.tuple #[.agg #[.bool false, .int .i64 0, .slice none 0 0, .int .i64 0, .bool false], .int .i64 130])) X) := by
      have e1 : rvX a = 130 := if_pos ho
      have e2 : rvV a K ad = noV := if_pos ho
      show TellsVF _ _ _ _ _
      rw [e1, e2]
      exact ⟨_, rfl, Or.inl ⟨none, 0, rfl, rfl, by unfold maxLen; omega, fun _ => rfl⟩, FarV.nil _ _ _, (BW.step16 B1 BW.size).trans (oX.below (by rw [hrb.out]; exact Nat.le_refl _))⟩
    clear KQ CY B1 ho oX yf BW
    go_wp2
    rw [← hX]
    clear hX
    exact bodyPost_ret (v := .tuple #[.agg #[.bool false, .int .i64 0, .slice none 0 0, .int .i64 0, .bool false], .int .i64 130]) (by simp [results, Tryz.results11, go_sem, x0, x1, x2, x3, x4]) rfl F.out
  · rw [← hn.out] at R1 ⊢
    have KE := elected_any (S := sayL a ad) (by rw [sayL_length]; exact hn.out) (by omega) okL17_say (RpRow.say hn.out R1)
    clear KQ
    go_wp2_with fail
    refine KE.mono ?_
    rintro _ w2 ⟨rfl, B2⟩
    clear KE
    have HV : Hid (rvX a = 0 ∧ rvV a K ad = ⟨decide (0 < elN (sayL a ad)), elE (sayL a ad), elD (sayL a ad), elN (sayL a ad), wiF (sayL a ad) K n⟩) := by
      have e0 : rvV a K ad = votS (sayL a ad) K := by unfold rvV; rw [if_neg (by rw [ho]; decide)]
      refine ⟨if_neg (by rw [ho]; decide), ?_⟩
      rw [e0, vot_same, el_has (sayL a ad) [], hn.out, sayL_length]
    have hDl : Hid ((elD (sayL a ad)).length ≤ maxLen) := by
      show _ ≤ _
      by_cases q : 0 < elN (sayL a ad)
      · rcases vo_or (sayL a ad) with h | ⟨e, d, h⟩
        · unfold elD; rw [vo_none h []]; exact Nat.zero_le _
        · have : OkSe ad e d.length := top_se h
          unfold elD; rw [vo_top h []]
          have := this.2.2
          show d.length ≤ _
          unfold maxLen; omega
      · rcases vo_or (sayL a ad) with h | ⟨e, d, h⟩
        · unfold elD; rw [vo_none h []]; exact Nat.zero_le _
        · have : OkSe ad e d.length := top_se h
          unfold elD; rw [vo_top h []]
          have := this.2.2
          show d.length ≤ _
          unfold maxLen; omega
    have RS := RpRow.say hn.out R1
    generalize elE (sayL a ad) = E at HV
    generalize elD (sayL a ad) = D at HV hDl
    generalize elN (sayL a ad) = N at HV
    have B12 : Below W.heap.size W w2 := B1.step16 B2 B1.size
    have BW2 : Below w.heap.size w w2 := BW.step16 B12 BW.size
    obtain ⟨V, hV⟩ : ∃ V, V = w2.alloc (.cells #[.int .i64 E, .string ⟨D.toArray⟩] 87) := ⟨_, rfl⟩
    have bV : Below w2.heap.size w2 V := by rw [hV]; exact belR _ _
    have v0 : V.cell? ⟨w2.heap.size, 0, none⟩ = some (.int .i64 E) := by rw [hV]; exact World.cell?_alloc_new _ _ _ _
    have v1 : V.cell? ⟨w2.heap.size, 1, none⟩ = some (.string ⟨D.toArray⟩) := by rw [hV]; exact World.cell?_alloc_new _ _ _ _
    have lV : w2.heap.size < V.heap.size := by rw [hV]; simp
    obtain ⟨ob, hob⟩ : ∃ ob, Hid (ob = w2.heap.size) := ⟨_, rfl⟩
    rw [← hob.out] at v0 v1 lV
    have RV := (RS.below B2).below bV
    have BV : Below w.heap.size w V := BW2.step16 bV BW2.size
    have KI := fun W2 (b : Below V.heap.size V W2) => iswit_any (RV.below b) (by omega) (HK.out.below (BV.step16 b BV.size))
    generalize wiF (sayL a ad) K n = Z at HV KI
    have s0 : V.cell? ⟨ob, 0, none⟩ = some (.int .i64 E) ∧ V.cell? ⟨ob, 1, none⟩ = some (.string ⟨D.toArray⟩) := ⟨v0, v1⟩
    have SE : Hid (∀ W2, Below V.heap.size V W2 → W2.cell? ⟨ob, 0, none⟩ = some (.int .i64 E) ∧ W2.cell? ⟨ob, 1, none⟩ = some (.string ⟨D.toArray⟩)) := fun W2 b => ⟨(b.cell (p := ⟨ob, 0, none⟩) lV).trans v0, (b.cell (p := ⟨ob, 1, none⟩) lV).trans v1⟩
    have BD : Below V.heap.size V V.drew := (Below.refl _ _).drew
    have sD := SE.out _ BD
    have HKO : Hid (∀ W2 W3, Only rb W2 W3 → (W2.cell? ⟨ob, 0, none⟩ = some (.int .i64 E) ∧ W2.cell? ⟨ob, 1, none⟩ = some (.string ⟨D.toArray⟩)) → (W3.cell? ⟨ob, 0, none⟩ = some (.int .i64 E) ∧ W3.cell? ⟨ob, 1, none⟩ = some (.string ⟨D.toArray⟩))) := by
      have ne : ob ≠ rb := by rw [hob.out, hrb.out]; have := B12.size; rw [hrb.out] at lW; omega
      exact fun W2 W3 o k => ⟨(o.cell (p := ⟨ob, 0, none⟩) ne).trans k.1, (o.cell (p := ⟨ob, 1, none⟩) ne).trans k.2⟩
    have LV : Hid (rb < V.heap.size) := by show _ < _; have := B12.size; have := bV.size; omega
    have CV : Hid (∀ W2, Below V.heap.size V W2 → Below W.heap.size W W2) := fun W2 b => (B12.step16 bV B12.size).step16 b (B12.step16 bV B12.size).size
    have CC : Hid (∀ Y, ∃ c U, (convert 9 32 (.string ⟨D.toArray⟩)).run Tryz.prog Y = .ok (.slice (some ⟨Y.heap.size, 0, none⟩) D.length c) U ∧ Rd U (.slice (some ⟨Y.heap.size, 0, none⟩) D.length c) D ∧ Below Y.heap.size Y U ∧ Y.heap.size < U.heap.size) := fun Y => conv_key Y D hDl.out
    clear R1 RS B1 B2 B12 bV v0 v1 RV
    go_wp2_with fail
    rw [← hV, ← hob.out]
    clear hV
    obtain ⟨kF, U1, e1, r1, bU1, lU1⟩ := CC.out V.drew
    have b1 : Below V.heap.size V U1 := BD.step16 bU1 BD.size
    have s1 := SE.out _ b1
    obtain ⟨y0, y1, y2, y3, y4, yf⟩ := CY.out _ (CV.out _ b1)
    refine wp_region_held_drew (S := fun wx => wx.cell? ⟨ob, 0, none⟩ = some (.int .i64 E) ∧ wx.cell? ⟨ob, 1, none⟩ = some (.string ⟨D.toArray⟩)) (by kernel_rfl) sD (fun hHeld => ?_)
    refine tkH 0 ?_
    refine tkH 1 ?_
    refine tkH 2 ?_
    refine tkH 3 ?_
    refine tkH 4 ?_
    refine tkH 5 ?_
    refine tkH 7 ?_
    refine tkH 8 ?_
    refine tkH 9 ?_
    refine rmH 6 10 (fun K' hK => ?_) (fun K' hK => ?_)
    · go_simp
      refine koH hK s1 fun hHeld => ?_
      clear hK K'
      refine rnH 10 fun K' hK => ?_
      go_simp
      go_at_call 35
      refine (KI _ b1).mono ?_
      rintro _ w4 ⟨rfl, B4⟩
      dsimp only
      have bF := b1.step16 B4 b1.size
      have sF' := SE.out _ bF
      have rF := r1.below B4
      obtain ⟨bd, hbd⟩ : ∃ bd, Hid (bd = V.heap.size) := ⟨_, rfl⟩
      have lF : Hid (V.heap.size ≤ bd) := by show _ ≤ _; rw [hbd.out]; exact Nat.le_refl _
      rw [show V.drew.heap.size = V.heap.size from rfl, ← hbd.out] at rF
      rw [← hbd.out]
      clear e1 r1 bU1 lU1 b1 s1 B4 hbd KI sD BD s0 y0 y1 y2 y3 y4 yf CC lV
      exact vr_tail
    · go_simp
      go_at_call 35
      refine (KI _ BD).mono ?_
      rintro _ w3 ⟨rfl, B3⟩
      dsimp only
      have b3 := BD.step16 B3 BD.size
      have s3 := SE.out _ b3
      refine koH hK s3 fun hHeld => ?_
      clear hK K'
      obtain ⟨kF, w4, e3, r3, bU3, lU3⟩ := CC.out w3
      have bF := b3.step16 bU3 b3.size
      have sF' := SE.out _ bF
      refine rnH 6 fun K' hK => ?_
      go_simp
      obtain ⟨bd, hbd⟩ : ∃ bd, Hid (bd = w3.heap.size) := ⟨_, rfl⟩
      have lF : Hid (V.heap.size ≤ bd) := by show _ ≤ _; rw [hbd.out]; exact b3.size
      have rF := r3
      rw [← hbd.out] at rF ⊢
      clear e1 r1 bU1 lU1 b1 s1 hbd KI sD BD s0 y0 y1 y2 y3 y4 yf CC lV e3 r3 bU3 lU3 B3 b3 s3
      exact vr_tail
end Go.Proofs.YtgahaebfgmbckaaGreat.Gf
