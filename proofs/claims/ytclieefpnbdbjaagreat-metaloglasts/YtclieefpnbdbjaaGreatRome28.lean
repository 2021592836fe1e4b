/- TEXTS JOINED: VoMath, VoAr, VoLaw. -/
import Derived.Test.YtclieefpnbdbjaaGreatRome19
import Derived.Test.YtclieefpnbdbjaaGreatRome12
namespace Go.Proofs.YtclieefpnbdbjaaGreat.Gf
set_option linter.unusedVariables false
set_option linter.unusedSimpArgs false
/-- the order of texts -/
theorem less_irr (a : List UInt8) : Op.bytesLess a a = false := by
  rw [lessK]
  unfold upK
  simp
theorem less_or {a b : List UInt8} (h : a ≠ b) : Op.bytesLess a b = true ∨ Op.bytesLess b a = true := by
  cases e : Op.bytesLess b a with
  | true => exact Or.inr rfl
  | false =>
    left
    rw [lessK]
    unfold upK
    rw [e]
    have : (b == a) = false := beq_eq_false_iff_ne.2 fun q => h q.symm
    rw [this]
    rfl
theorem less_trans : ∀ {a b c : List UInt8}, Op.bytesLess a b = true → Op.bytesLess b c = true → Op.bytesLess a c = true
  | _, [], _, h, _ => by unfold Op.bytesLess at h; cases h
  | _, _ :: _, [], _, h => by unfold Op.bytesLess at h; cases h
  | [], _ :: _, _ :: _, _, _ => rfl
  | x :: a, y :: b, z :: c, h, k => by
    unfold Op.bytesLess at h k ⊢
    simp only [Bool.or_eq_true, Bool.and_eq_true, decide_eq_true_eq, beq_iff_eq] at h k ⊢
    rcases h with h | ⟨rfl, h⟩
    · rcases k with k | ⟨rfl, k⟩
      · exact Or.inl (UInt8.lt_trans h k)
      · exact Or.inl h
    · rcases k with k | ⟨rfl, k⟩
      · exact Or.inl k
      · exact Or.inr ⟨rfl, less_trans h k⟩
/-- what a disk says: something (is), or nothing (no) -/
structure SaS where
  is : Bool
  no : Bool
  ep : Int
  da : List UInt8
instance : Inhabited SaS := ⟨⟨false, false, 0, []⟩⟩
def sF (S : List SaS) (i : Nat) : SaS := S.getD i default
/-- does it say just that? -/
def isV (s : SaS) (e : Int) (d : List UInt8) : Bool := s.is && (s.ep == e) && (s.da == d)
theorem isV_iff {s : SaS} {e : Int} {d : List UInt8} : isV s e d = true ↔ s.is = true ∧ s.ep = e ∧ s.da = d := by
  unfold isV
  simp only [Bool.and_eq_true, beq_iff_eq, and_assoc]
/-- how many say just that -/
def cpV (S : List SaS) (e : Int) (d : List UInt8) : Nat := cnt (fun i => isV (sF S i) e d) S.length
/-- which of two is told rather -/
def Gt17 (e : Int) (n : Nat) (d : List UInt8) (e' : Int) (n' : Nat) (d' : List UInt8) : Prop := e' < e ∨ (e = e' ∧ (n' < n ∨ (n = n' ∧ Op.bytesLess d d' = true)))
theorem gt_irr {e : Int} {n : Nat} {d : List UInt8} : ¬ Gt17 e n d e n d := by
  rintro (h | ⟨_, h | ⟨_, h⟩⟩)
  · omega
  · omega
  · rw [less_irr] at h; cases h
theorem gt_trans {e1 e2 e3 : Int} {n1 n2 n3 : Nat} {d1 d2 d3 : List UInt8} (h : Gt17 e1 n1 d1 e2 n2 d2) (k : Gt17 e2 n2 d2 e3 n3 d3) : Gt17 e1 n1 d1 e3 n3 d3 := by
  rcases h with h | ⟨rfl, h⟩
  · rcases k with k | ⟨rfl, k⟩
    · exact Or.inl (by omega)
    · exact Or.inl h
  · rcases k with k | ⟨rfl, k⟩
    · exact Or.inl k
    · refine Or.inr ⟨rfl, ?_⟩
      rcases h with h | ⟨rfl, h⟩
      · rcases k with k | ⟨rfl, k⟩
        · exact Or.inl (by omega)
        · exact Or.inl h
      · rcases k with k | ⟨rfl, k⟩
        · exact Or.inl k
        · exact Or.inr ⟨rfl, less_trans h k⟩
theorem gt_or {e1 e2 : Int} {n1 n2 : Nat} {d1 d2 : List UInt8} (h : ¬ (e1 = e2 ∧ d1 = d2)) : Gt17 e1 n1 d1 e2 n2 d2 ∨ Gt17 e2 n2 d2 e1 n1 d1 := by
  by_cases he : e1 = e2
  · subst he
    by_cases hn : n1 = n2
    · subst hn
      rcases less_or (fun q => h ⟨rfl, q⟩) with q | q
      · exact Or.inl (Or.inr ⟨rfl, Or.inr ⟨rfl, q⟩⟩)
      · exact Or.inr (Or.inr ⟨rfl, Or.inr ⟨rfl, q⟩⟩)
    · rcases Nat.lt_or_gt_of_ne hn with q | q
      · exact Or.inr (Or.inr ⟨rfl, Or.inl q⟩)
      · exact Or.inl (Or.inr ⟨rfl, Or.inl q⟩)
  · rcases Int.lt_or_gt_of_ne he with q | q
    · exact Or.inr (Or.inl q)
    · exact Or.inl (Or.inl q)
/-- e and d are told of what the first r say -/
structure Top (S : List SaS) (r : Nat) (e : Int) (d : List UInt8) : Prop where
  one : ∃ i, i < r ∧ isV (sF S i) e d = true
  all : ∀ j, j < r → (sF S j).is = true → ¬ Gt17 (sF S j).ep (cpV S (sF S j).ep (sF S j).da) (sF S j).da e (cpV S e d) d
theorem Top.same {S : List SaS} {r : Nat} {e e' : Int} {d d' : List UInt8} (h : Top S r e d) (k : Top S r e' d') : e = e' ∧ d = d' := by
  by_cases q : e = e' ∧ d = d'
  · exact q
  · obtain ⟨i, hi, hv⟩ := h.one
    obtain ⟨j, hj, kv⟩ := k.one
    obtain ⟨a1, rfl, rfl⟩ := isV_iff.1 hv
    obtain ⟨b1, rfl, rfl⟩ := isV_iff.1 kv
    rcases gt_or q with g | g
    · exact absurd g (k.all i hi a1)
    · exact absurd g (h.all j hj b1)
/-- a vote -/
structure VoS where
  has : Bool
  ep : Int
  da : List UInt8
  co : Nat
  wi : Bool
def noV : VoS := ⟨false, 0, [], 0, false⟩
/-- is there a witness among the first r? -/
def wiF (S : List SaS) (K : List Bool) : Nat → Bool
  | 0 => false
  | r + 1 => wiF S K r || (hb K r && ((sF S r).is || (sF S r).no))
/-- is what a disk says, so many times, better? -/
def betV (v : VoS) (e : Int) (d : List UInt8) (n : Nat) : Bool := if v.has = true ∧ e = v.ep then (decide (n > v.co) || (decide (n = v.co) && Op.bytesLess d v.da)) else (!v.has || decide (e > v.ep))
/-- the vote of what the first r say -/
def votV (S : List SaS) (K : List Bool) : Nat → VoS
  | 0 => noV
  | r + 1 => if (sF S r).is = true ∧ betV (votV S K r) (sF S r).ep (sF S r).da (cpV S (sF S r).ep (sF S r).da) = true then ⟨true, (sF S r).ep, (sF S r).da, cpV S (sF S r).ep (sF S r).da, wiF S K (r + 1)⟩ else { votV S K r with wi := wiF S K (r + 1) }
theorem vot_wi (S : List SaS) (K : List Bool) : ∀ r, (votV S K r).wi = wiF S K r
  | 0 => rfl
  | r + 1 => by unfold votV; split <;> rfl
theorem bet_gt {v : VoS} (h : v.has = true) {e : Int} {d : List UInt8} {n : Nat} : betV v e d n = true ↔ Gt17 e n d v.ep v.co v.da := by
  unfold betV Gt17
  by_cases q : e = v.ep
  · rw [if_pos ⟨h, q⟩]
    simp only [Bool.or_eq_true, Bool.and_eq_true, decide_eq_true_eq]
    constructor
    · rintro (k | k)
      · exact Or.inr ⟨q, Or.inl k⟩
      · exact Or.inr ⟨q, Or.inr k⟩
    · rintro (k | ⟨_, k | k⟩)
      · omega
      · exact Or.inl k
      · exact Or.inr k
  · rw [if_neg fun k => q k.2, h]
    simp only [Bool.not_true, Bool.false_or, decide_eq_true_eq]
    constructor
    · exact fun k => Or.inl k
    · rintro (k | ⟨k, _⟩)
      · exact k
      · exact absurd k q
theorem bet_no {v : VoS} (h : v.has = false) (e : Int) (d : List UInt8) (n : Nat) : betV v e d n = true := by
  unfold betV
  rw [if_neg (fun k => by rw [h] at k; exact absurd k.1 (by decide)), h]
  rfl
/-- what the vote of the first r is -/
theorem vot_is (S : List SaS) (K : List Bool) : ∀ r, ((votV S K r).has = false ∧ votV S K r = { noV with wi := wiF S K r } ∧ ∀ i, i < r → (sF S i).is = false) ∨ ((votV S K r).has = true ∧ (votV S K r).co = cpV S (votV S K r).ep (votV S K r).da ∧ Top S r (votV S K r).ep (votV S K r).da)
  | 0 => Or.inl ⟨rfl, rfl, fun i hi => by omega⟩
  | r + 1 => by
    have ih := vot_is S K r
    unfold votV
    by_cases hi : (sF S r).is = true
    · by_cases hb : betV (votV S K r) (sF S r).ep (sF S r).da (cpV S (sF S r).ep (sF S r).da) = true
      · rw [if_pos ⟨hi, hb⟩]
        refine Or.inr ⟨rfl, rfl, ⟨r, by omega, isV_iff.2 ⟨hi, rfl, rfl⟩⟩, fun j hj hs => ?_⟩
        show ¬ Gt17 _ _ _ (sF S r).ep (cpV S (sF S r).ep (sF S r).da) (sF S r).da
        by_cases e : j = r
        · subst e; exact gt_irr
        · rcases ih with ⟨_, _, ih⟩ | ⟨h1, h2, h3⟩
          · rw [ih j (by omega)] at hs; cases hs
          · intro g
            have g2 := (bet_gt h1).1 hb
            rw [h2] at g2
            exact h3.all j (by omega) hs (gt_trans g g2)
      · rw [if_neg fun k => hb k.2]
        rcases ih with ⟨h1, _, _⟩ | ⟨h1, h2, h3⟩
        · exact absurd (bet_no h1 _ _ _) hb
        · refine Or.inr ⟨h1, h2, ⟨?_, fun j hj hs => ?_⟩⟩
          · obtain ⟨i, a1, a2⟩ := h3.one
            exact ⟨i, by omega, a2⟩
          · by_cases e : j = r
            · subst e
              intro g
              refine hb ((bet_gt h1).2 ?_)
              rw [h2]; exact g
            · exact h3.all j (by omega) hs
    · rw [if_neg fun k => hi k.1]
      have hi' : (sF S r).is = false := by simpa using hi
      rcases ih with ⟨h1, h0, ih⟩ | ⟨h1, h2, h3⟩
      · refine Or.inl ⟨h1, ?_, fun i hi2 => ?_⟩
        · rw [h0]
        · by_cases e : i = r
          · rw [e]; exact hi'
          · exact ih i (by omega)
      · refine Or.inr ⟨h1, h2, ⟨?_, fun j hj hs => ?_⟩⟩
        · obtain ⟨i, a1, a2⟩ := h3.one
          exact ⟨i, by omega, a2⟩
        · by_cases e : j = r
          · rw [e] at hs; exact absurd hs hi
          · exact h3.all j (by omega) hs
/-- the vote of all -/
def votS (S : List SaS) (K : List Bool) : VoS := votV S K S.length
theorem vo_top {S : List SaS} {e : Int} {d : List UInt8} (h : Top S S.length e d) (K : List Bool) : votS S K = ⟨true, e, d, cpV S e d, wiF S K S.length⟩ := by
  unfold votS
  have hw := vot_wi S K S.length
  rcases vot_is S K S.length with ⟨_, _, k⟩ | ⟨h1, h2, h3⟩
  · obtain ⟨i, hi, hv⟩ := h.one
    have := (isV_iff.1 hv).1
    rw [k i hi] at this; cases this
  · obtain ⟨a1, a2⟩ := h3.same h
    rw [a1, a2] at h2
    cases hv : votV S K S.length with
    | mk x1 x2 x3 x4 x5 =>
      rw [hv] at h1 h2 a1 a2 hw
      simp only at h1 h2 a1 a2 hw
      rw [h1, h2, a1, a2, hw]
theorem vo_none {S : List SaS} (h : ∀ i, i < S.length → (sF S i).is = false) (K : List Bool) : votS S K = ⟨false, 0, [], 0, wiF S K S.length⟩ := by
  unfold votS
  rcases vot_is S K S.length with ⟨_, k, _⟩ | ⟨_, _, h3⟩
  · exact k
  · obtain ⟨i, hi, hv⟩ := h3.one
    have := (isV_iff.1 hv).1
    rw [h i hi] at this; cases this
theorem vo_or (S : List SaS) : (∀ i, i < S.length → (sF S i).is = false) ∨ ∃ e d, Top S S.length e d := by
  rcases vot_is S [] S.length with ⟨_, _, k⟩ | ⟨_, _, h3⟩
  · exact Or.inl k
  · exact Or.inr ⟨_, _, h3⟩
end Go.Proofs.YtclieefpnbdbjaaGreat.Gf

namespace Go.Proofs.YtclieefpnbdbjaaGreat.Gf
set_option linter.unusedVariables false
set_option linter.unusedSimpArgs false
section
variable {a : ArS} {ad : Int} {b : List UInt8}
/-- what the disk i says of the place ad -/
def sayV (a : ArS) (ad : Int) (i : Nat) : SaS := ⟨decide (rdAX a (i : Int) ad = 0 ∧ upX ad (rdAB a (i : Int) ad) = 0), decide (rdAX a (i : Int) ad = 0 ∧ rdAB a (i : Int) ad = []), ((upN ad (rdAB a (i : Int) ad) : Nat) : Int), upD ad (rdAB a (i : Int) ad)⟩
def sayL (a : ArS) (ad : Int) : List SaS := (List.range a.D.length).map (sayV a ad)
theorem sayL_length : (sayL a ad).length = a.D.length := by simp [sayL]
theorem sF_say {i : Nat} (h : i < a.D.length) : sF (sayL a ad) i = sayV a ad i := by simp [sF, sayL, List.getD, h]
theorem upX_iff {x : Int} {p : List UInt8} : upX x p = 0 ↔ OkUe x p := by
  by_cases h : OkUe x p
  · exact ⟨fun _ => h, fun _ => (up_ok h).1⟩
  · rw [(up_not h).1]; exact ⟨fun k => (by cases k), fun k => absurd k h⟩
theorem say_is {i : Nat} : (sayV a ad i).is = true ↔ rdAX a (i : Int) ad = 0 ∧ OkUe ad (rdAB a (i : Int) ad) := by
  show decide _ = true ↔ _
  rw [decide_eq_true_eq, upX_iff]
/-- what is said is a sector's -/
theorem say_ok {i : Nat} (h : (sayV a ad i).is = true) : OkSe ad (sayV a ad i).ep (sayV a ad i).da.length ∧ pkS ad.toNat (sayV a ad i).ep.toNat (sayV a ad i).da = rdAB a (i : Int) ad := by
  obtain ⟨_, h2⟩ := say_is.1 h
  obtain ⟨u1, u2, u3⟩ := up_ok h2
  have e1 : (sayV a ad i).ep = ((epS (rdAB a (i : Int) ad) : Nat) : Int) := by show ((upN _ _ : Nat) : Int) = _; rw [u2]
  have e2 : (sayV a ad i).da = daS (rdAB a (i : Int) ad) := u3
  rw [e1, e2]
  exact ok_back h2
/-- a disk that is not dead, and holds a sector of its place, says it -/
theorem say_at (ho : a.off = false) {i : Nat} (hi : i < a.D.length) {e : Int} {d : List UInt8} (hf : faX (diA a (i : Int)) ad = 0) (hr : rdB (diA a (i : Int)) ad = pkS ad.toNat e.toNat d) (hs : OkSe ad e d.length) : sayV a ad i = ⟨true, false, e, d⟩ := by
  have ht : thA a (i : Int) := ⟨by omega, by omega⟩
  have e1 : rdAX a (i : Int) ad = 0 := by unfold rdAX; rw [if_neg (by rw [ho]; decide), if_pos ht, hf]
  have e2 : rdAB a (i : Int) ad = pkS ad.toNat e.toNat d := by rw [rd_at ho ht, hr]
  obtain ⟨o1, o2, o3⟩ := ok_pk hs
  obtain ⟨u1, u2, u3⟩ := up_ok o1
  unfold sayV
  rw [e1, e2, u1, u2, u3, o2, o3]
  have n1 : ¬ pkS ad.toNat e.toNat d = [] := fun k => by have := congrArg List.length k; rw [pk_length] at this; simp at this
  have n2 : ((e.toNat : Nat) : Int) = e := Int.toNat_of_nonneg hs.2.1.1
  simp [n1, n2]
theorem say_no (ho : a.off = false) {i : Nat} (hi : i < a.D.length) (hr : ¬ OkUe ad (rdB (diA a (i : Int)) ad)) : (sayV a ad i).is = false := by
  cases h : (sayV a ad i).is with
  | false => rfl
  | true =>
    have := (say_is.1 h).2
    rw [rd_at ho ⟨by omega, by omega⟩] at this
    exact absurd this hr
/-- Read's answer -/
def rvX (a : ArS) : Int := if a.off = true then 130 else 0
def rvV (a : ArS) (K : List Bool) (ad : Int) : VoS := if a.off = true then noV else votS (sayL a ad) K
/-- writes to those disks that are asked for, of the first r: did the power go, how many took it, what is left -/
structure PuS where
  cr : Bool
  n : Nat
  st : ArS
def puV (a : ArS) (ad : Int) (b : List UInt8) (tO : Nat → Bool) : Nat → PuS
  | 0 => ⟨false, 0, a⟩
  | r + 1 =>
    if (puV a ad b tO r).cr = true then puV a ad b tO r else
    if tO r = true then (if wrAX (puV a ad b tO r).st (r : Int) ad b = 130 then ⟨true, (puV a ad b tO r).n, (puV a ad b tO r).st⟩ else ⟨false, (puV a ad b tO r).n + (if wrAX (puV a ad b tO r).st (r : Int) ad b = 0 then 1 else 0), wrAS (puV a ad b tO r).st (r : Int) ad b⟩) else puV a ad b tO r
def puN (p : PuS) : Int := if p.cr = true then 0 else (p.n : Int)
def puE (p : PuS) : Int := if p.cr = true then 130 else 0
theorem wrAS_len {i : Int} : (wrAS a i ad b).D.length = a.D.length := by
  unfold wrAS
  split
  · rfl
  split
  · split
    · rw [tickA_D, setA_len]
    · rfl
  · rfl
theorem puV_len {tO : Nat → Bool} : ∀ r, (puV a ad b tO r).st.D.length = a.D.length
  | 0 => rfl
  | r + 1 => by
    have ih := puV_len (tO := tO) r
    unfold puV
    split
    · exact ih
    split
    · split
      · exact ih
      · show (wrAS _ _ _ _).D.length = _
        rw [wrAS_len, ih]
    · exact ih
/-- Write's answer -/
def wvP (a : ArS) (ad ep : Int) (da : List UInt8) : PuS := if OkSe ad ep da.length then puV a ad (pkS ad.toNat ep.toNat da) (fun _ => true) a.D.length else ⟨false, 0, a⟩
def wvX (a : ArS) (ad ep : Int) (da : List UInt8) : Int := if OkSe ad ep da.length then puE (wvP a ad ep da) else 1
def wvN (a : ArS) (ad ep : Int) (da : List UInt8) : Int := puN (wvP a ad ep da)
def wvS (a : ArS) (ad ep : Int) (da : List UInt8) : ArS := (wvP a ad ep da).st
theorem top_say {e : Int} {d : List UInt8} (h : Top (sayL a ad) (sayL a ad).length e d) : ∃ i, i < a.D.length ∧ (sayV a ad i).is = true ∧ (sayV a ad i).ep = e ∧ (sayV a ad i).da = d := by
  obtain ⟨i, hi, hv⟩ := h.one
  rw [sayL_length] at hi
  rw [sF_say hi] at hv
  exact ⟨i, hi, isV_iff.1 hv⟩
theorem top_se {e : Int} {d : List UInt8} (h : Top (sayL a ad) (sayL a ad).length e d) : OkSe ad e d.length := by
  obtain ⟨i, hi, h1, rfl, rfl⟩ := top_say h
  exact (say_ok h1).1
theorem wrS_same {d : DkS} (h : ¬ wrX d ad b = 0) : wrS d ad b = d := by
  unfold wrS
  rw [if_neg]
  rintro ⟨h1, h2⟩
  refine h ?_
  unfold wrX
  rw [if_pos h1, if_pos h2]
/-- .. where no crash is to come -/
theorem pu_calm (hc : Calm a) {tO : Nat → Bool} : ∀ r, r ≤ a.D.length → (puV a ad b tO r).cr = false ∧ Calm (puV a ad b tO r).st ∧ (puV a ad b tO r).n = cnt (fun i => tO i && decide (wrX (diA a (i : Int)) ad b = 0)) r ∧ ∀ j : Nat, diA (puV a ad b tO r).st (j : Int) = if j < r ∧ tO j = true then wrS (diA a (j : Int)) ad b else diA a (j : Int)
  | 0, _ => ⟨rfl, hc, rfl, fun j => by rw [if_neg fun k => by omega]; rfl⟩
  | r + 1, hr => by
    obtain ⟨h1, h2, h3, h4⟩ := pu_calm hc r (by omega)
    have hl : (puV a ad b tO r).st.D.length = a.D.length := puV_len r
    have h5 : diA (puV a ad b tO r).st (r : Int) = diA a (r : Int) := by rw [h4 r, if_neg fun k => by omega]
    have ht : thA (puV a ad b tO r).st (r : Int) := ⟨by omega, by rw [hl]; omega⟩
    unfold puV
    rw [if_neg (by rw [h1]; decide)]
    by_cases e : tO r = true
    · rw [if_pos e, if_neg (by rw [wrAX_crash, h2.1]; decide)]
      by_cases q : wrX (diA a (r : Int)) ad b = 0
      · obtain ⟨k1, k2⟩ := wr_set (ad := ad) (b := b) h2 ht (by rw [h5]; exact q)
        rw [k1, k2, if_pos rfl, h5]
        refine ⟨rfl, h2, ?_, fun j => ?_⟩
        · show (puV a ad b tO r).n + 1 = _
          rw [h3, cnt_yes (by simp only [e, decide_eq_true q]; rfl)]
        · show diA (setA _ _ _) _ = _
          rw [diA_set ht _ (by omega)]
          by_cases ej : j = r
          · subst ej
            rw [if_pos rfl, if_pos ⟨by omega, e⟩]
          · rw [if_neg (by omega), h4 j]
            by_cases ej2 : j < r ∧ tO j = true
            · rw [if_pos ej2, if_pos ⟨by omega, ej2.2⟩]
            · rw [if_neg ej2, if_neg fun k => ej2 ⟨by omega, k.2⟩]
      · have k1 : wrAX (puV a ad b tO r).st (r : Int) ad b = wrX (diA a (r : Int)) ad b := by
          unfold wrAX
          rw [if_neg (by rw [h2.1]; decide), if_pos ht, h5]
        have k2 : wrAS (puV a ad b tO r).st (r : Int) ad b = (puV a ad b tO r).st := by
          unfold wrAS
          rw [if_neg (by rw [h2.1]; decide), if_pos ht, h5, if_neg q]
        rw [k1, k2, if_neg q]
        refine ⟨rfl, h2, ?_, fun j => ?_⟩
        · show (puV a ad b tO r).n + 0 = _
          rw [h3, cnt_not (by simp only [decide_eq_false q, Bool.and_false]), Nat.add_zero]
        · show diA (puV a ad b tO r).st _ = _
          rw [h4 j]
          by_cases ej : j = r
          · subst ej
            rw [if_neg fun k => by omega, if_pos ⟨by omega, e⟩, wrS_same q]
          · by_cases ej2 : j < r ∧ tO j = true
            · rw [if_pos ej2, if_pos ⟨by omega, ej2.2⟩]
            · rw [if_neg ej2, if_neg fun k => ej2 ⟨by omega, k.2⟩]
    · rw [if_neg e]
      have e' : tO r = false := by simpa using e
      refine ⟨h1, h2, ?_, fun j => ?_⟩
      · rw [h3, cnt_not (by simp only [e', Bool.false_and])]
      · rw [h4 j]
        by_cases ej2 : j < r ∧ tO j = true
        · rw [if_pos ej2, if_pos ⟨by omega, ej2.2⟩]
        · rw [if_neg ej2, if_neg fun k => ej2 ⟨by
            have : j ≠ r := fun q => e (by rw [← q]; exact k.2)
            omega, k.2⟩]
end
theorem rdAX_up {a : ArS} {i ad : Int} (h : a.off = false) : ¬ rdAX a i ad = 130 := by
  unfold rdAX
  rw [if_neg (by rw [h]; decide)]
  split
  · rcases faX_in (diA a i) ad with q | q | q <;> rw [q] <;> decide
  · decide
theorem rdB_le {a : ArS} (h : a.Ok) (i ad : Int) : (rdAB a i ad).length ≤ 4108 := by
  unfold rdAB
  split
  · exact Nat.zero_le _
  split
  · rename_i ht
    unfold rdB
    split
    · have ok := h.each _ (di_mem ht)
      unfold atD
      cases hw : (diA a i).wait ad with
      | some b => exact (ok.iw ad b hw).2.2.2
      | none =>
        cases hl : (diA a i).last ad with
        | some b => exact (ok.il ad b hl).2.2.2
        | none => exact Nat.zero_le _
    · exact Nat.zero_le _
  · exact Nat.zero_le _
end Go.Proofs.YtclieefpnbdbjaaGreat.Gf

namespace Go.Proofs.YtclieefpnbdbjaaGreat.Gf
set_option linter.unusedVariables false
set_option linter.unusedSimpArgs false
section
variable {a : ArS} {ad : Int} {b : List UInt8}
theorem rdAX_at {i : Int} (ho : a.off = false) (ht : thA a i) : rdAX a i ad = faX (diA a i) ad := by
  unfold rdAX
  rw [if_neg (by rw [ho]; decide), if_pos ht]
theorem di_nat (i : Nat) : diA a (i : Int) = a.D.getD i default := rfl
theorem calm_re (a : ArS) (K : List (List Int)) : Calm (reAS a K) := ⟨rfl, by show ¬ (0 : Int) < -1; omega⟩
/-- all that is said is one thing -/
theorem top_one {e : Int} {d : List UInt8} {k : Nat} (hk : k < a.D.length) (hv : isV (sayV a ad k) e d = true) (h : ∀ i, i < a.D.length → (sayV a ad i).is = true → (sayV a ad i).ep = e ∧ (sayV a ad i).da = d) : Top (sayL a ad) (sayL a ad).length e d := by
  rw [sayL_length]
  refine ⟨⟨k, hk, by rw [sF_say hk]; exact hv⟩, fun j hj hs => ?_⟩
  rw [sF_say hj] at hs ⊢
  obtain ⟨h1, h2⟩ := h j hj hs
  rw [h1, h2]
  exact gt_irr
theorem okB_pk {x e : Int} {d : List UInt8} (h : OkSe x e d.length) : OkB (pkS x.toNat e.toNat d) := by
  have := h.2.2
  refine ⟨?_, ?_⟩
  · rw [pk_length]; omega
  · rw [pk_length]; omega
theorem isV_mk {s : SaS} {e : Int} {d : List UInt8} (h : s = ⟨true, false, e, d⟩) : isV s e d = true := by rw [h]; exact isV_iff.2 ⟨rfl, rfl, rfl⟩
end
end Go.Proofs.YtclieefpnbdbjaaGreat.Gf
