/- TEXTS JOINED: VoLaw, VoTl. -/
import Derived.Test.YtgahaebfgmbckaaTome17
namespace Go.Proofs.Ytgahaebfgmbckaa.Gf
set_option linter.unusedVariables false
set_option linter.unusedSimpArgs false
section
variable {a : ArS} {ad : Int} {b : List UInt8}
/-- all disks have so many sectors -/
def SizA (a : ArS) (s : Nat) : Prop := ∀ i : Nat, i < a.D.length → (diA a (i : Int)).s = s
theorem rdAX_at {i : Int} (ho : a.off = false) (ht : thA a i) : rdAX a i ad = faX (diA a i) ad := by
  unfold rdAX
  rw [if_neg (by rw [ho]; decide), if_pos ht]
theorem di_nat (i : Nat) : diA a (i : Int) = a.D.getD i default := rfl
theorem siz_new (n s : Nat) : SizA (newA n s) s := fun i hi => by
  rw [di_nat]
  have h : i < n := by simpa [newA] using hi
  show ((List.replicate n (newD s)).getD i default).s = s
  simp [List.getD, h, newD]
theorem siz_set {i : Int} {d : DkS} {s : Nat} (h : SizA a s) (ht : thA a i) (hd : d.s = s) : SizA (setA a i d) s := fun j hj => by
  rw [setA_len] at hj
  rw [diA_set ht _ (by omega)]
  split
  · exact hd
  · exact h j hj
theorem siz_at {i : Int} {s : Nat} (h : SizA a s) (ht : thA a i) : (diA a i).s = s := by
  obtain ⟨h0, h1⟩ := ht
  have := h i.toNat (by omega)
  rwa [Int.toNat_of_nonneg h0] at this
theorem siz_play {c : CallA} {s : Nat} (h : SizA a s) : SizA (playA a c) s := by
  have hw : SizA (wrAS a c.d c.n c.b) s := by
    unfold wrAS
    split
    · exact h
    split
    · rename_i ht
      split
      · have h2 : SizA (setA a c.d (wrS (diA a c.d) c.n c.b)) s := siz_set h ht (by rw [wrS_s]; exact siz_at h ht)
        intro i hi
        rw [di_nat, tickA_D]
        rw [tickA_D] at hi
        exact h2 i hi
      · exact h
    · exact h
  have hf : SizA (flAS a) s := by
    unfold flAS
    split
    · exact h
    · intro i hi
      have hi' : i < a.D.length := by simpa using hi
      show ((a.D.map flS).getD i default).s = s
      rw [show (a.D.map flS).getD i default = flS (a.D.getD i default) by simp [List.getD, hi'], flS_s]
      exact h i hi'
  have hr : SizA (reAS a (c.keep.map (·.2))) s := fun i hi => by
    have hi' : i < a.D.length := by simpa [reAS] using hi
    rw [di_nat, re_at hi']
    exact h i hi'
  have hx : SizA (faAS a c.d) s := by
    unfold faAS
    split
    · rename_i ht
      exact siz_set (d := faS (diA a c.d)) h ht (siz_at h ht)
    · exact h
  have hy : SizA (rpAS a c.d) s := by
    unfold rpAS
    split
    · rename_i ht
      exact siz_set (d := reS (diA a c.d)) h ht (siz_at h ht)
    · exact h
  have hz : SizA (coAS a c.d c.n c.m c.by8) s := by
    unfold coAS
    split
    · rename_i ht
      exact siz_set h ht (by rw [coS_s]; exact siz_at h ht)
    · exact h
  unfold playA
  split
  · exact hw
  split
  · exact hf
  split
  · intro i hi
    rw [di_nat, caA_D]
    rw [caA_D] at hi
    exact h i hi
  split
  · exact hr
  split
  · exact hx
  split
  · exact hy
  split
  · exact hz
  · exact h
theorem siz_step {c : CallA} {s : Nat} (h : SizA a s) : SizA (stepA a c) s := by
  unfold stepA
  split
  · exact siz_play h
  · exact h
theorem siz_run {s : Nat} : ∀ {L : List CallA} {a : ArS}, SizA a s → SizA (runA a L) s
  | [], _, h => h
  | c :: L, a, h => siz_run (L := L) (a := stepA a c) (siz_step h)
theorem siz_re {s : Nat} (h : SizA a s) (K : List (List Int)) : SizA (reAS a K) s := fun i hi => by
  have hi' : i < a.D.length := by simpa [reAS] using hi
  rw [di_nat, re_at hi']
  exact h i hi'
theorem calm_re (a : ArS) (K : List (List Int)) : Calm (reAS a K) := ⟨rfl, by show ¬ (0 : Int) < -1; omega⟩
/-- Mend's answer, by what is told -/
theorem md_top (ho : a.off = false) {e : Int} {d : List UInt8} (h : Top (sayL a ad) (sayL a ad).length e d) (K : List Bool) : mdP a K ad = puV a ad (pkS ad.toNat e.toNat d) (toV a ad e d) a.D.length := by
  unfold mdP
  rw [if_neg (by rw [ho]; decide), vo_top h K, if_pos rfl]
theorem md_none (ho : a.off = false) (h : ∀ i, i < a.D.length → (sayV a ad i).is = false) (K : List Bool) : mdP a K ad = ⟨false, 0, a⟩ := by
  unfold mdP
  rw [if_neg (by rw [ho]; decide), vo_none (fun i hi => by rw [sayL_length] at hi; rw [sF_say hi]; exact h i hi) K]
  rfl
theorem say_or (a : ArS) (ad : Int) : (∀ i, i < a.D.length → (sayV a ad i).is = false) ∨ ∃ e d, Top (sayL a ad) (sayL a ad).length e d := by
  rcases vo_or (sayL a ad) with h | h
  · left
    intro i hi
    have := h i (by rw [sayL_length]; exact hi)
    rwa [sF_say hi] at this
  · exact Or.inr h
/-- all that is said is one thing -/
theorem top_one {e : Int} {d : List UInt8} {k : Nat} (hk : k < a.D.length) (hv : isV (sayV a ad k) e d = true) (h : ∀ i, i < a.D.length → (sayV a ad i).is = true → (sayV a ad i).ep = e ∧ (sayV a ad i).da = d) : Top (sayL a ad) (sayL a ad).length e d := by
  rw [sayL_length]
  refine ⟨⟨k, hk, by rw [sF_say hk]; exact hv⟩, fun j hj hs => ?_⟩
  rw [sF_say hj] at hs ⊢
  obtain ⟨h1, h2⟩ := h j hj hs
  rw [h1, h2]
  exact gt_irr
theorem okB_pk {x e : Int} {d : List UInt8} (h : OkSe x e d.length) : OkB (pkS x.toNat e.toNat d) := by
  have := h.2.2
  refine ⟨?_, ?_⟩
  · rw [pk_length]; omega
  · rw [pk_length]; omega
/-- a disk behind a write of a sector that it took -/
theorem say_wrote {a' : ArS} (ho : a'.off = false) {i : Nat} (hi : i < a'.D.length) {e : Int} {d : List UInt8} (hs : OkSe ad e d.length) {k : DkS} (hk : wrX k ad (pkS ad.toNat e.toNat d) = 0) (hd : diA a' (i : Int) = wrS k ad (pkS ad.toNat e.toNat d)) : sayV a' ad i = ⟨true, false, e, d⟩ := by
  obtain ⟨f1, f2⟩ := wrX_zero hk
  obtain ⟨q1, q2, q3⟩ := faX_zero f1
  refine say_at ho hi ?_ ?_ hs
  · rw [hd]
    exact faX_ok (by rw [wrS_dead]; exact q1) ⟨q2, by rw [wrS_s]; exact q3⟩
  · rw [hd, rdB_wr q1 q2 q3 f2, if_pos rfl]
theorem isV_mk {s : SaS} {e : Int} {d : List UInt8} (h : s = ⟨true, false, e, d⟩) : isV s e d = true := by rw [h]; exact isV_iff.2 ⟨rfl, rfl, rfl⟩
/-- behind a mend: the same is told, by all that are not dead, and a second one writes nothing -/
theorem mend_all (hc : Calm a) {s : Nat} (hs : SizA a s) {e : Int} {d : List UInt8} (h : Top (sayL a ad) (sayL a ad).length e d) :
    (mdP a [] ad).cr = false ∧ Calm (mdS a [] ad) ∧ (mdP a [] ad).n + cpV (sayL a ad) e d = cnt (fun i => !(diA a (i : Int)).dead) a.D.length ∧ (∀ i : Nat, i < a.D.length → (diA (mdS a [] ad) (i : Int)).dead = (diA a (i : Int)).dead) ∧ Top (sayL (mdS a [] ad) ad) (sayL (mdS a [] ad) ad).length e d ∧ cpV (sayL (mdS a [] ad) ad) e d = cnt (fun i => !(diA a (i : Int)).dead) a.D.length ∧ mdP (mdS a [] ad) [] ad = ⟨false, 0, mdS a [] ad⟩ := by
  have hse := top_se h
  have hP := md_top hc.1 h []
  obtain ⟨p1, p2, p3, p4⟩ := pu_calm (ad := ad) (b := pkS ad.toNat e.toNat d) hc (tO := toV a ad e d) a.D.length (Nat.le_refl _)
  have hl : (mdS a [] ad).D.length = a.D.length := mdS_len []
  obtain ⟨k, hk, k1, k2, k3⟩ := top_say h
  have hin := say_in hc.1 hk k1
  obtain ⟨_, i1, i2⟩ := faX_zero hin
  rw [hs k hk] at i2
  have okb := okB_pk hse
  have wr : ∀ i : Nat, i < a.D.length → (diA a (i : Int)).dead = false → wrX (diA a (i : Int)) ad (pkS ad.toNat e.toNat d) = 0 := fun i hi hd => wrX_ok hd i1 (by rw [hs i hi]; exact i2) okb
  have eS : mdS a [] ad = (puV a ad (pkS ad.toNat e.toNat d) (toV a ad e d) a.D.length).st := by unfold mdS; rw [hP]
  have hdi : ∀ i : Nat, i < a.D.length → diA (mdS a [] ad) (i : Int) = if toV a ad e d i = true then wrS (diA a (i : Int)) ad (pkS ad.toNat e.toNat d) else diA a (i : Int) := fun i hi => by
    rw [eS, p4 i]
    by_cases q : toV a ad e d i = true
    · rw [if_pos ⟨hi, q⟩, if_pos q]
    · rw [if_neg fun k => q k.2, if_neg q]
  have hde : ∀ i : Nat, i < a.D.length → (diA (mdS a [] ad) (i : Int)).dead = (diA a (i : Int)).dead := fun i hi => by
    rw [hdi i hi]
    split
    · exact wrS_dead
    · rfl
  have hcm : Calm (mdS a [] ad) := by rw [eS]; exact p2
  -- what each disk says then
  have hsay : ∀ i : Nat, i < a.D.length → (diA a (i : Int)).dead = false → isV (sayV (mdS a [] ad) ad i) e d = true := fun i hi hd => by
    by_cases q : toV a ad e d i = true
    · exact isV_mk (say_wrote hcm.1 (by rw [hl]; exact hi) hse (wr i hi hd) (by rw [hdi i hi, if_pos q]))
    · have hv : isV (sayV a ad i) e d = true := by
        have q' : toV a ad e d i = false := by simpa using q
        unfold toV at q'
        rw [hd] at q'
        simpa using q'
      have e1 : diA (mdS a [] ad) (i : Int) = diA a (i : Int) := by rw [hdi i hi, if_neg q]
      have ht : thA a (i : Int) := ⟨by omega, by omega⟩
      have ht' : thA (mdS a [] ad) (i : Int) := ⟨by omega, by rw [hl]; omega⟩
      have e2 : sayV (mdS a [] ad) ad i = sayV a ad i := by
        have x1 : rdAX (mdS a [] ad) (i : Int) ad = rdAX a (i : Int) ad := by
          rw [rdAX_at hcm.1 ht', rdAX_at hc.1 ht, e1]
        have x2 : rdAB (mdS a [] ad) (i : Int) ad = rdAB a (i : Int) ad := by rw [rd_at hcm.1 ht', rd_at hc.1 ht, e1]
        unfold sayV
        rw [x1, x2]
      rw [e2]; exact hv
  have hnone : ∀ i : Nat, i < a.D.length → (diA a (i : Int)).dead = true → (sayV (mdS a [] ad) ad i).is = false := fun i hi hd => say_dead hcm.1 (by rw [hl]; exact hi) (by rw [hde i hi]; exact hd)
  have hkd : (diA a (k : Int)).dead = false := (faX_zero hin).1
  have T2 : Top (sayL (mdS a [] ad) ad) (sayL (mdS a [] ad) ad).length e d := by
    refine top_one (k := k) (by rw [hl]; exact hk) (hsay k hk hkd) fun i hi hx => ?_
    rw [hl] at hi
    cases hd : (diA a (i : Int)).dead with
    | true => rw [hnone i hi hd] at hx; cases hx
    | false => exact (isV_iff.1 (hsay i hi hd)).2
  refine ⟨by rw [hP]; exact p1, hcm, ?_, hde, T2, ?_, ?_⟩
  · rw [hP, p3, cp_say]
    have hsum := cnt_or_eq (fun i => toV a ad e d i && decide (wrX (diA a (i : Int)) ad (pkS ad.toNat e.toNat d) = 0)) (fun i => isV (sayV a ad i) e d) a.D.length (fun i hi hp => by
      rw [Bool.and_eq_true] at hp
      have := hp.1
      unfold toV at this
      rw [Bool.and_eq_true] at this
      simpa using this.2)
    rw [← hsum]
    refine cnt_congr fun i hi => ?_
    cases hd : (diA a (i : Int)).dead with
    | true =>
      have n1 : isV (sayV a ad i) e d = false := by
        cases q : isV (sayV a ad i) e d with
        | false => rfl
        | true =>
          have := (isV_iff.1 q).1
          rw [say_dead hc.1 hi hd] at this; cases this
      have n2 : toV a ad e d i = false := by unfold toV; rw [hd]; rfl
      rw [n1, n2]; rfl
    | false =>
      rw [decide_eq_true (wr i hi hd), Bool.and_true]
      unfold toV
      rw [hd]
      cases isV (sayV a ad i) e d <;> rfl
  · rw [cp_say, hl]
    refine cnt_congr fun i hi => ?_
    cases hd : (diA a (i : Int)).dead with
    | true =>
      cases q : isV (sayV (mdS a [] ad) ad i) e d with
      | false => rfl
      | true =>
        have := (isV_iff.1 q).1
        rw [hnone i hi hd] at this; cases this
    | false => rw [hsay i hi hd]; rfl
  · rw [md_top hcm.1 T2 []]
    refine puV_none _ fun i hi => ?_
    rw [hl] at hi
    unfold toV
    cases hd : (diA a (i : Int)).dead with
    | true => rw [hde i hi, hd]; rfl
    | false => rw [hsay i hi hd]; simp
/-- VoteWrites: all disks but one are hurt -/
def hvA (kind ad at_ : Int) (keep : Nat) (a : ArS) : Nat → ArS
  | 0 => a
  | r + 1 => if r = keep then hvA kind ad at_ keep a r else hdA kind ad at_ (hvA kind ad at_ keep a r) (r : Int)
theorem hv_at {kind at_ : Int} {keep : Nat} (hc : Calm a) : ∀ r, r ≤ a.D.length → Calm (hvA kind ad at_ keep a r) ∧ (hvA kind ad at_ keep a r).D.length = a.D.length ∧ ∀ j : Nat, diA (hvA kind ad at_ keep a r) (j : Int) = if j < r ∧ j ≠ keep then hdD kind ad at_ (diA a (j : Int)) else diA a (j : Int)
  | 0, _ => ⟨hc, rfl, fun j => by rw [if_neg fun k => by omega]; rfl⟩
  | r + 1, hr => by
    obtain ⟨h1, h2, h3⟩ := hv_at hc r (by omega)
    unfold hvA
    by_cases e : r = keep
    · rw [if_pos e]
      refine ⟨h1, h2, fun j => ?_⟩
      rw [h3 j]
      by_cases q : j < r ∧ j ≠ keep
      · rw [if_pos q, if_pos ⟨by omega, q.2⟩]
      · rw [if_neg q, if_neg fun k => q ⟨by omega, k.2⟩]
    · rw [if_neg e]
      have ht : thA (hvA kind ad at_ keep a r) (r : Int) := ⟨by omega, by rw [h2]; omega⟩
      refine ⟨hd_calm h1, by rw [hd_len, h2], fun j => ?_⟩
      rw [hd_di ht (by omega)]
      by_cases ej : j = r
      · subst ej
        rw [if_pos rfl, if_pos ⟨by omega, e⟩, h3 j, if_neg fun k => by omega]
      · rw [if_neg (by omega), h3 j]
        by_cases q : j < r ∧ j ≠ keep
        · rw [if_pos q, if_pos ⟨by omega, q.2⟩]
        · rw [if_neg q, if_neg fun k => q ⟨by omega, k.2⟩]
/-- a disk that was written, and is hurt, says nothing -/
theorem hurt_no {kind at_ e : Int} {d : List UInt8} {k : DkS} (hk : wrX k ad (pkS ad.toNat e.toNat d) = 0) (hs : OkSe ad e d.length) (hkind : kind ≠ 0) : ¬ OkUe ad (rdB (hdD kind ad at_ (wrS k ad (pkS ad.toNat e.toNat d))) ad) := by
  obtain ⟨f1, f2⟩ := wrX_zero hk
  obtain ⟨q1, q2, q3⟩ := faX_zero f1
  have e1 := rdB_wr q1 q2 q3 f2 ad
  rw [if_pos rfl] at e1
  have hne : pkS ad.toNat e.toNat d ≠ [] := fun k => by have := f2.1; rw [k] at this; simp at this
  obtain ⟨g1, g2⟩ := rdB_some e1 hne
  unfold hdD
  rw [if_neg hkind]
  split
  · have : rdB (reS (wrS k ad (pkS ad.toNat e.toNat d))) ad = [] := by
      unfold rdB
      split
      · rfl
      · rfl
    rw [this]
    intro u
    have := u.1
    simp at this
  · rw [rdB_co g1 g2]
    unfold chB
    have hl : 0 < (pkS ad.toNat e.toNat d).length := by have := f2.1; omega
    refine pk_tells hs (Nat.mod_lt _ hl) fun u => ?_
    have e2 := congrArg (fun x => co (pkS ad.toNat e.toNat d) (atN at_ (pkS ad.toNat e.toNat d).length) ^^^ x) u
    simp only [← UInt8.xor_assoc, UInt8.xor_self, UInt8.zero_xor] at e2
    exact absurd e2 (by decide)
/-- what VoteWrites asks of a write on new disks -/
theorem writes_new {n : Nat} {e : Int} {d : List UInt8} (hn : 1 ≤ n) (hs : OkSe ad e d.length) :
    (wvX (newA n 12) ad e d = 0 ∧ wvN (newA n 12) ad e d = (if ad ≤ 11 then (n : Int) else 0)) ∧ Calm (wvS (newA n 12) ad e d) ∧ (ad ≤ 11 → ∀ i : Nat, i < n → diA (wvS (newA n 12) ad e d) (i : Int) = wrS (newD 12) ad (pkS ad.toNat e.toNat d)) := by
  have hl : (newA n 12).D.length = n := by simp [newA]
  have hd : ∀ i : Nat, i < n → diA (newA n 12) (i : Int) = newD 12 := fun i hi => by
    rw [di_nat]
    show (List.replicate n (newD 12)).getD i default = _
    simp [List.getD, hi]
  obtain ⟨p1, p2, p3, p4⟩ := pu_calm (ad := ad) (b := pkS ad.toNat e.toNat d) (calm_new n 12) (tO := fun _ => true) n (by rw [hl]; exact Nat.le_refl _)
  have eP : wvP (newA n 12) ad e d = puV (newA n 12) ad (pkS ad.toNat e.toNat d) (fun _ => true) n := by unfold wvP; rw [if_pos hs, hl]
  have ok := okB_pk hs
  refine ⟨⟨?_, ?_⟩, ?_, fun h11 i hi => ?_⟩
  · unfold wvX; rw [if_pos hs, eP]; unfold puE; rw [p1]; rfl
  · unfold wvN puN
    rw [eP, p1, if_neg (by decide), p3]
    by_cases h11 : ad ≤ 11
    · rw [if_pos h11, cnt_full fun i hi => ?_]
      show (true && decide (wrX (diA (newA n 12) (i : Int)) ad _ = 0)) = true
      rw [hd i hi, decide_eq_true (wrX_ok rfl hs.1.1 (by show ad < ((12 : Nat) : Int); omega) ok)]
      rfl
    · rw [if_neg h11, cnt_none fun i hi => ?_]
      · rfl
      · show (true && decide (wrX (diA (newA n 12) (i : Int)) ad _ = 0)) = false
        rw [hd i hi, decide_eq_false fun k => ?_]
        · rfl
        · have := (faX_zero (wrX_zero k).1).2.2
          have h12 : ((newD 12).s : Int) = 12 := rfl
          omega
  · unfold wvS; rw [eP]; exact p2
  · unfold wvS
    rw [eP, p4 i, if_pos ⟨hi, rfl⟩, hd i hi]
/-- .. and of what is told then, mended, hurt, and mended again -/
theorem writes_all {n : Nat} {e : Int} {d : List UInt8} (hs : OkSe ad e d.length) (h11 : ad ≤ 11) (hl : a.D.length = n) (hc : Calm a) (hd : ∀ i : Nat, i < n → diA a (i : Int) = wrS (newD 12) ad (pkS ad.toNat e.toNat d)) {keep : Nat} (hk : keep < n) {kind at_ : Int} (hkind : kind ≠ 0) :
    mdP a [] ad = ⟨false, 0, a⟩ ∧ rvV (hvA kind ad at_ keep a n) [] ad = ⟨true, e, d, 1, false⟩ ∧ (mdP (hvA kind ad at_ keep a n) [] ad).cr = false ∧ (mdP (hvA kind ad at_ keep a n) [] ad).n = n - 1 ∧ (rvV (mdS (hvA kind ad at_ keep a n) [] ad) [] ad).co = n ∧ Calm (mdS (hvA kind ad at_ keep a n) [] ad) ∧ Calm (hvA kind ad at_ keep a n) := by
  have hw : wrX (newD 12) ad (pkS ad.toNat e.toNat d) = 0 := wrX_ok rfl hs.1.1 (by show ad < ((12 : Nat) : Int); omega) (okB_pk hs)
  have say1 : ∀ i : Nat, i < n → sayV a ad i = ⟨true, false, e, d⟩ := fun i hi => say_wrote hc.1 (by rw [hl]; exact hi) hs hw (hd i hi)
  have T1 : Top (sayL a ad) (sayL a ad).length e d := top_one (k := keep) (by rw [hl]; exact hk) (isV_mk (say1 keep hk)) fun i hi _ => by rw [hl] at hi; rw [say1 i hi]; exact ⟨rfl, rfl⟩
  obtain ⟨c2, l2, d2⟩ := hv_at (kind := kind) (ad := ad) (at_ := at_) (keep := keep) hc n (by omega)
  have l2' : (hvA kind ad at_ keep a n).D.length = n := l2.trans hl
  have dk : ∀ i : Nat, i < n → diA (hvA kind ad at_ keep a n) (i : Int) = if i = keep then wrS (newD 12) ad (pkS ad.toNat e.toNat d) else hdD kind ad at_ (wrS (newD 12) ad (pkS ad.toNat e.toNat d)) := fun i hi => by
    rw [d2 i, hd i hi]
    by_cases q : i = keep
    · rw [if_neg fun k => k.2 q, if_pos q]
    · rw [if_pos ⟨hi, q⟩, if_neg q]
  have live : ∀ i : Nat, i < n → (diA (hvA kind ad at_ keep a n) (i : Int)).dead = false := fun i hi => by
    rw [dk i hi]
    have e0 : (wrS (newD 12) ad (pkS ad.toNat e.toNat d)).dead = false := wrS_dead
    split
    · exact e0
    · rw [hdD_dead e0]; exact decide_eq_false hkind
  have sayK : sayV (hvA kind ad at_ keep a n) ad keep = ⟨true, false, e, d⟩ := say_wrote c2.1 (by rw [l2']; exact hk) hs hw (by rw [dk keep hk, if_pos rfl])
  have sayN : ∀ i : Nat, i < n → i ≠ keep → (sayV (hvA kind ad at_ keep a n) ad i).is = false := fun i hi q => say_no c2.1 (by rw [l2']; exact hi) (by rw [dk i hi, if_neg q]; exact hurt_no hw hs hkind)
  have T2 : Top (sayL (hvA kind ad at_ keep a n) ad) (sayL (hvA kind ad at_ keep a n) ad).length e d := top_one (k := keep) (by rw [l2']; exact hk) (isV_mk sayK) fun i hi hx => by
    rw [l2'] at hi
    by_cases q : i = keep
    · rw [q, sayK]; exact ⟨rfl, rfl⟩
    · rw [sayN i hi q] at hx; cases hx
  have cp2 : cpV (sayL (hvA kind ad at_ keep a n) ad) e d = 1 := by
    rw [cp_say, l2', cnt_congr (q := fun i => decide (i = keep)) fun i hi => ?_, cnt_one15 hk]
    by_cases q : i = keep
    · rw [q, isV_mk sayK, decide_eq_true rfl]
    · rw [decide_eq_false q]
      cases z : isV (sayV (hvA kind ad at_ keep a n) ad i) e d with
      | false => rfl
      | true => have := (isV_iff.1 z).1; rw [sayN i hi q] at this; cases this
  have S2 : SizA (hvA kind ad at_ keep a n) 12 := fun i hi => by
    rw [l2'] at hi
    rw [dk i hi]
    have e0 : (wrS (newD 12) ad (pkS ad.toNat e.toNat d)).s = 12 := wrS_s _ _ _
    split
    · exact e0
    · rw [hdD_s]; exact e0
  obtain ⟨m1, m2, m3, m4, m5, m6, m7⟩ := mend_all c2 S2 T2
  have hn : cnt (fun i => !(diA (hvA kind ad at_ keep a n) (i : Int)).dead) (hvA kind ad at_ keep a n).D.length = n := by
    rw [l2', cnt_full fun i hi => ?_]
    show (!(diA _ (i : Int)).dead) = true
    rw [live i hi]; rfl
  rw [hn, cp2] at m3
  rw [hn] at m6
  refine ⟨?_, ?_, m1, by omega, ?_, m2, c2⟩
  · rw [md_top hc.1 T1 []]
    refine puV_none _ fun i hi => ?_
    rw [hl] at hi
    unfold toV
    rw [isV_mk (say1 i hi)]
    simp
  · unfold rvV
    rw [if_neg (by rw [c2.1]; decide), vo_top T2 [], cp2, wi_nil]
  · unfold rvV
    rw [if_neg (by rw [m2.1]; decide), vo_top m5 [], m6]
end
end Go.Proofs.Ytgahaebfgmbckaa.Gf

namespace Go.Proofs.Ytgahaebfgmbckaa.Gf
set_option linter.unusedVariables false
set_option linter.unusedSimpArgs false
open Go.RowKit
def TellsVF (w : World) (X : Int) (V : VoS) (e : Ending) (w' : World) : Prop := ∃ vd, e = .returned (.tuple #[aggV V vd, .int .i64 X]) ∧ Rd w' vd V.da ∧ FarV w vd ∧ Below w.heap.size w w'
/-- a write on new disks, however many sectors they have -/
theorem wrote_new {n s : Nat} {ad e : Int} {d : List UInt8} (hn : 1 ≤ n) (hs : OkSe ad e d.length) (ha : ad < (s : Int)) :
    wvX (newA n s) ad e d = 0 ∧ wvN (newA n s) ad e d = (n : Int) ∧ Calm (wvS (newA n s) ad e d) ∧ (wvS (newA n s) ad e d).D.length = n ∧ ∀ i : Nat, i < n → diA (wvS (newA n s) ad e d) (i : Int) = wrS (newD s) ad (pkS ad.toNat e.toNat d) := by
  have hl : (newA n s).D.length = n := by simp [newA]
  have hd : ∀ i : Nat, i < n → diA (newA n s) (i : Int) = newD s := fun i hi => by
    rw [di_nat]
    show (List.replicate n (newD s)).getD i default = _
    simp [List.getD, hi]
  obtain ⟨p1, p2, p3, p4⟩ := pu_calm (ad := ad) (b := pkS ad.toNat e.toNat d) (calm_new n s) (tO := fun _ => true) n (by rw [hl]; exact Nat.le_refl _)
  have eP : wvP (newA n s) ad e d = puV (newA n s) ad (pkS ad.toNat e.toNat d) (fun _ => true) n := by unfold wvP; rw [if_pos hs, hl]
  have ok := okB_pk hs
  refine ⟨?_, ?_, ?_, by rw [wvS_len, hl], fun i hi => ?_⟩
  · unfold wvX; rw [if_pos hs, eP]; unfold puE; rw [p1]; rfl
  · unfold wvN puN
    rw [eP, p1, if_neg (by decide), p3, cnt_full fun i hi => ?_]
    show (true && decide (wrX (diA (newA n s) (i : Int)) ad _ = 0)) = true
    rw [hd i hi, decide_eq_true (wrX_ok rfl hs.1.1 ha ok)]
    rfl
  · unfold wvS; rw [eP]; exact p2
  · unfold wvS
    rw [eP, p4 i, if_pos ⟨hi, rfl⟩, hd i hi]
/-- the states of 'awake' -/
def vwB : List UInt8 := pkS (1 : Int).toNat (5 : Int).toNat [7]
def vw1 : ArS := wvS (newA 3 4) 1 5 [7]
def vw2 : ArS := rpAS vw1 0
def vw3 : ArS := mdS vw2 [] 1
theorem vw_se : OkSe 1 5 ([7] : List UInt8).length := by decide
theorem vw_1 : wvX (newA 3 4) 1 5 [7] = 0 ∧ wvN (newA 3 4) 1 5 [7] = 3 ∧ Calm vw1 ∧ vw1.D.length = 3 ∧ ∀ i : Nat, i < 3 → diA vw1 (i : Int) = wrS (newD 4) 1 (vwB) := wrote_new (by decide) vw_se (by decide)
theorem vw_okb : OkB vwB := okB_pk (x := 1) (e := 5) (d := [7]) vw_se
theorem vw_wr : wrX (newD 4) 1 vwB = 0 := wrX_ok (d := newD 4) (ad := 1) (b := vwB) rfl (by decide) (by decide) vw_okb
theorem vw_s1 {i : Nat} (hi : i < 3) : sayV vw1 1 i = ⟨true, false, 5, [7]⟩ := say_wrote (e := 5) (d := [7]) vw_1.2.2.1.1 (by rw [vw_1.2.2.2.1]; exact hi) vw_se vw_wr (vw_1.2.2.2.2 i hi)
theorem vw_t1 : Top (sayL vw1 1) (sayL vw1 1).length 5 [7] := top_one (k := 0) (by rw [vw_1.2.2.2.1]; decide) (isV_mk (vw_s1 (by decide))) fun i hi _ => by rw [vw_1.2.2.2.1] at hi; rw [vw_s1 hi]; exact ⟨rfl, rfl⟩
theorem vw_r1 : rvX vw1 = 0 ∧ rvV vw1 [true] 1 = ⟨true, 5, [7], 3, true⟩ := by
  refine ⟨if_neg (by rw [vw_1.2.2.1.1]; decide), ?_⟩
  unfold rvV
  rw [if_neg (by rw [vw_1.2.2.1.1]; decide), vo_top vw_t1 [true], sayL_length, vw_1.2.2.2.1]
  have e1 : cpV (sayL vw1 1) 5 [7] = 3 := by
    rw [cp_say, vw_1.2.2.2.1, cnt_full fun i hi => isV_mk (vw_s1 hi)]
  have e2 : wiF (sayL vw1 1) [true] 3 = true := by
    have h0 : sF (sayL vw1 1) 0 = ⟨true, false, 5, [7]⟩ := by rw [sF_say (by rw [vw_1.2.2.2.1]; decide), vw_s1 (by decide)]
    simp [wiF, h0, hb]
  rw [e1, e2]
theorem vw_d2 {i : Nat} (hi : i < 3) : diA vw2 (i : Int) = if i = 0 then reS (wrS (newD 4) 1 (vwB)) else wrS (newD 4) 1 (vwB) := by
  have ht : thA vw1 0 := ⟨by decide, by rw [vw_1.2.2.2.1]; decide⟩
  show diA (rpAS vw1 0) (i : Int) = _
  unfold rpAS
  rw [if_pos ht, diA_born, diA_set ht _ (by omega)]
  by_cases e : i = 0
  · subst e
    rw [if_pos (show ((0 : Nat) : Int) = 0 from rfl), if_pos rfl]
    exact congrArg reS (vw_1.2.2.2.2 0 (by decide))
  · rw [if_neg (by omega), if_neg e]
    exact vw_1.2.2.2.2 i hi
theorem vw_c2 : Calm vw2 ∧ vw2.D.length = 3 ∧ SizA vw2 4 := by
  have ht : thA vw1 0 := ⟨by decide, by rw [vw_1.2.2.2.1]; decide⟩
  have hc : Calm vw2 := by
    show Calm (rpAS vw1 0)
    unfold rpAS
    rw [if_pos ht]
    exact vw_1.2.2.1
  have hl : vw2.D.length = 3 := by
    show (rpAS vw1 0).D.length = 3
    unfold rpAS
    rw [if_pos ht]
    show (setA vw1 0 _).D.length = 3
    rw [setA_len, vw_1.2.2.2.1]
  refine ⟨hc, hl, fun i hi => ?_⟩
  rw [hl] at hi
  rw [vw_d2 hi]
  split
  · exact wrS_s _ _ _
  · exact wrS_s _ _ _
theorem vw_s2 {i : Nat} (hi : i < 3) (h : i ≠ 0) : sayV vw2 1 i = ⟨true, false, 5, [7]⟩ := say_wrote (e := 5) (d := [7]) vw_c2.1.1 (by rw [vw_c2.2.1]; exact hi) vw_se vw_wr (by rw [vw_d2 hi, if_neg h]; rfl)
theorem vw_s20 : (sayV vw2 1 0).is = false := say_no vw_c2.1.1 (by rw [vw_c2.2.1]; decide) (by
  rw [vw_d2 (by decide), if_pos rfl]
  have : rdB (reS (wrS (newD 4) 1 (vwB))) 1 = [] := by
    unfold rdB
    split <;> rfl
  rw [this]
  intro u
  have := u.1
  simp at this)
theorem vw_t2 : Top (sayL vw2 1) (sayL vw2 1).length 5 [7] := top_one (k := 1) (by rw [vw_c2.2.1]; decide) (isV_mk (vw_s2 (by decide) (by decide))) fun i hi hx => by
  rw [vw_c2.2.1] at hi
  by_cases e : i = 0
  · rw [e, vw_s20] at hx; cases hx
  · rw [vw_s2 hi e]; exact ⟨rfl, rfl⟩
theorem vw_cp2 : cpV (sayL vw2 1) 5 [7] = 2 := by
  rw [cp_say, vw_c2.2.1]
  have h0 : isV (sayV vw2 1 0) 5 [7] = false := by
    cases q : isV (sayV vw2 1 0) 5 [7] with
    | false => rfl
    | true => have := (isV_iff.1 q).1; rw [vw_s20] at this; cases this
  have h1 := isV_mk (vw_s2 (i := 1) (by decide) (by decide))
  have h2 := isV_mk (vw_s2 (i := 2) (by decide) (by decide))
  simp [cnt, h0, h1, h2]
theorem vw_r2 : rvX vw2 = 0 ∧ rvV vw2 [] 1 = ⟨true, 5, [7], 2, false⟩ := by
  refine ⟨if_neg (by rw [vw_c2.1.1]; decide), ?_⟩
  unfold rvV
  rw [if_neg (by rw [vw_c2.1.1]; decide), vo_top vw_t2 [], vw_cp2, wi_nil]
theorem vw_m : mdX vw2 [] 1 = 0 ∧ mdN vw2 [] 1 = 1 ∧ Calm vw3 := by
  obtain ⟨m1, m2, m3, _⟩ := mend_all vw_c2.1 vw_c2.2.2 vw_t2
  have hn : cnt (fun i => !(diA vw2 (i : Int)).dead) vw2.D.length = 3 := by
    rw [vw_c2.2.1, cnt_full fun i hi => ?_]
    rw [vw_d2 hi]
    have : (wrS (newD 4) 1 (vwB)).dead = false := wrS_dead
    split
    · rfl
    · rw [this]; rfl
  rw [hn, vw_cp2] at m3
  refine ⟨?_, ?_, m2⟩
  · unfold mdX puE; rw [m1]; rfl
  · unfold mdN puN
    rw [m1, if_neg (by decide), show (mdP vw2 [] 1).n = 1 by omega]
    rfl
/-- what a mend of one place leaves at another one -/
theorem vw_r3 : rvX vw3 = 0 ∧ rvV vw3 [] 2 = ⟨false, 0, [], 0, false⟩ := by
  have hc := vw_m.2.2
  have hl : vw3.D.length = 3 := (mdS_len (a := vw2) (ad := 1) []).trans vw_c2.2.1
  refine ⟨if_neg (by rw [hc.1]; decide), ?_⟩
  have eP := md_top vw_c2.1.1 vw_t2 []
  obtain ⟨_, _, _, p4⟩ := pu_calm (ad := 1) (b := vwB) vw_c2.1 (tO := toV vw2 1 5 [7]) vw2.D.length (Nat.le_refl _)
  have key : ∀ i : Nat, i < 3 → rdB (diA vw3 (i : Int)) 2 = [] := fun i hi => by
    have e3 : diA vw3 (i : Int) = if i < vw2.D.length ∧ toV vw2 1 5 [7] i = true then wrS (diA vw2 (i : Int)) 1 (vwB) else diA vw2 (i : Int) := by
      show diA (mdS vw2 [] 1) (i : Int) = _
      unfold mdS
      rw [eP]
      exact p4 i
    have d2 := vw_d2 hi
    have base : rdB (diA vw2 (i : Int)) 2 = [] ∧ (diA vw2 (i : Int)).dead = false ∧ (diA vw2 (i : Int)).s = 4 := by
      rw [d2]
      split
      · exact ⟨by unfold rdB; split <;> rfl, rfl, wrS_s _ _ _⟩
      · refine ⟨?_, wrS_dead, wrS_s _ _ _⟩
        rw [rdB_wr rfl (by decide) (by decide) vw_okb, if_neg (by decide)]
        rfl
    rw [e3]
    split
    · rw [rdB_wr base.2.1 (by decide) (by rw [base.2.2]; decide) vw_okb, if_neg (by decide)]
      exact base.1
    · exact base.1
  unfold rvV
  rw [if_neg (by rw [hc.1]; decide), vo_none (fun i hi => ?_) [], wi_nil]
  rw [sayL_length, hl] at hi
  rw [sF_say (by rw [hl]; exact hi)]
  refine say_no hc.1 (by rw [hl]; exact hi) ?_
  rw [key i hi]
  intro u
  have := u.1
  simp at this
end Go.Proofs.Ytgahaebfgmbckaa.Gf
