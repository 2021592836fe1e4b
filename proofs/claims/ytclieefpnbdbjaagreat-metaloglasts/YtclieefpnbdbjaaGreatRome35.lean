/- TEXTS JOINED: MeFul. -/
import Derived.Test.YtclieefpnbdbjaaGreatRome34
namespace Go.Proofs.YtclieefpnbdbjaaGreat.Gf
set_option linter.unusedVariables false
set_option linter.unusedSimpArgs false
instance : Inhabited RcS := ⟨⟨0, [], 0, []⟩⟩
/-- the records of a list that may be, as many as there are slots, among the first r -/
def kpL (g : GeoS) (l : List RcS) : Nat → List RcS
  | 0 => []
  | r + 1 => if OkR (l.getD r default) ∧ (kpL g l r).length < g.t.toNat then kpL g l r ++ [l.getD r default] else kpL g l r
theorem kp_le (g : GeoS) (l : List RcS) : ∀ r, (kpL g l r).length ≤ g.t.toNat ∧ (kpL g l r).length ≤ r
  | 0 => ⟨Nat.zero_le _, Nat.le_refl _⟩
  | r + 1 => by
    have := kp_le g l r
    unfold kpL
    split
    · rename_i q
      rw [List.length_append]
      show _ + 1 ≤ _ ∧ _ + 1 ≤ _
      omega
    · omega
theorem kp_ok (g : GeoS) (l : List RcS) : ∀ r, ∀ x ∈ kpL g l r, OkR x
  | 0, x, hx => by cases hx
  | r + 1, x, hx => by
    unfold kpL at hx
    split at hx
    · rename_i q
      rcases List.mem_append.1 hx with h | h
      · exact kp_ok g l r x h
      · simp only [List.mem_singleton] at h
        rw [h]; exact q.1
    · exact kp_ok g l r x hx
theorem kp_full {g : GeoS} {l : List RcS} {r : Nat} (h : (kpL g l r).length = g.t.toNat) : ∀ k, kpL g l (r + k) = kpL g l r
  | 0 => rfl
  | k + 1 => by
    have ih := kp_full h k
    show (if OkR (l.getD (r + k) default) ∧ (kpL g l (r + k)).length < g.t.toNat then kpL g l (r + k) ++ [l.getD (r + k) default] else kpL g l (r + k)) = _
    rw [ih, if_neg fun q => by omega]
/-- a sector's bytes -/
def seB (ad e : Int) (d : List UInt8) : List UInt8 := pkS ad.toNat e.toNat d
/-- what each disk holds: the label, a checkpoint in the area ar, records behind it -/
def fulF (ar ep : Int) (L : List ObS) (K : List RcS) : Int → Option (List UInt8) := fun q =>
  if q = 0 then some lbB else if q = 1 + ar * 2 then some (seB q ep ((snB L).take 4096)) else if q = 2 + ar * 2 then some (seB q ep ((snB L).drop 4096)) else
  if 5 ≤ q ∧ q < 5 + (K.length : Int) then some (seB q (ep + (q - 5) + 1) (enR (K.getD (q - 5).toNat default))) else none
section
variable {a : ArS} {n S : Nat} {F W : Int → Option (List UInt8)} {g : GeoS}
/-- a checkpoint on disks that hold the same -/
theorem uni_save (h : UniW a n S F noneI) (hn : 1 ≤ n) {ar ep : Int} {L : List ObS} (hP : svP g ar ep L = 0) (hS : (5 : Int) ≤ S) :
    svX a g ar ep L = 0 ∧ UniW (svS a g ar ep L) n S (putB (putB F (1 + ar * 2) (seB (1 + ar * 2) ep ((snB L).take 4096))) (2 + ar * 2) (seB (2 + ar * 2) ep ((snB L).drop 4096))) noneI := by
  obtain ⟨m1, m2, m3, m4, m5, m6⟩ := sv_may hP
  obtain ⟨s1, s2⟩ := sv_se hP
  have a0 := ar_at m1 m2 m3 (i := 0) (by omega) (by omega)
  have a1 := ar_at m1 m2 m3 (i := 1) (by omega) (by omega)
  rw [a0] at s1
  rw [a1] at s2
  have eA : svA a g ar ep L = wvP a (1 + ar * 2 + 0) ep ((snB L).take 4096) := by unfold svA; rw [a0]
  obtain ⟨p1, p2, p3⟩ := uw_put h s1 (by omega)
  rw [← eA] at p1 p2 p3
  have eB : svB a g ar ep L = wvP (svA a g ar ep L).st (1 + ar * 2 + 1) ep ((snB L).drop 4096) := by unfold svB; rw [a1]
  obtain ⟨q1, q2, q3⟩ := uw_put p3 s2 (by omega)
  rw [← eB] at q1 q2 q3
  obtain ⟨f1, f2⟩ := uw_flush q3
  rw [over_put2] at f2
  have nn : ¬ ¬ svP g ar ep L = 0 := fun k => k hP
  have n1 : ¬ (svA a g ar ep L).cr = true := by rw [p1]; decide
  have n2 : ¬ (svB a g ar ep L).cr = true := by rw [q1]; decide
  refine ⟨?_, ?_⟩
  · unfold svX
    rw [if_neg nn, if_neg n1, if_neg n2, f1, if_neg (fun k => k rfl), if_neg (by rw [p2, q2]; omega)]
  · unfold svS
    rw [if_neg nn, if_neg n1, if_neg n2]
    have e0 : (1 + ar * 2 + 0 : Int) = 1 + ar * 2 := by omega
    have e1 : (1 + ar * 2 + 1 : Int) = 2 + ar * 2 := by omega
    rw [e0, e1] at f2
    exact f2
/-- a record on disks that hold the same -/
theorem uni_app (h : UniW a n S F noneI) (hn : 1 ≤ n) {base count : Int} {r : RcS} (hP : apP g base count r = 0) (hS : 5 + g.t ≤ (S : Int)) :
    apX a g base count r = 0 ∧ UniW (apS a g base count r) n S (putB F (5 + count) (seB (5 + count) (base + count + 1) (enR r))) noneI := by
  obtain ⟨m1, m2, m3, m4, m5, m6⟩ := ap_may hP
  have s1 := ap_se hP
  have e0 : slG g count = 5 + count := if_pos ⟨m1, m3, m6⟩
  rw [e0] at s1
  have eW : apW a g base count r = wvP a (5 + count) (base + count + 1) (enR r) := by unfold apW; rw [e0]
  obtain ⟨p1, p2, p3⟩ := uw_put h s1 (by omega)
  rw [← eW] at p1 p2 p3
  obtain ⟨f1, f2⟩ := uw_flush p3
  rw [over_put] at f2
  have nn : ¬ ¬ apP g base count r = 0 := fun k => k hP
  have n1 : ¬ (apW a g base count r).cr = true := by rw [p1]; decide
  refine ⟨?_, ?_⟩
  · unfold apX
    rw [if_neg nn, if_neg n1, f1, if_neg (fun k => k rfl), if_neg (by rw [p2]; omega)]
  · unfold apS
    rw [if_neg nn, if_neg n1]
    exact f2
theorem ful_label {ar : Int} (h0 : 0 ≤ ar) (ep : Int) (L : List ObS) : putB (putB (putB noneI 0 lbB) (1 + ar * 2) (seB (1 + ar * 2) ep ((snB L).take 4096))) (2 + ar * 2) (seB (2 + ar * 2) ep ((snB L).drop 4096)) = fulF ar ep L [] := by
  funext q
  unfold putB fulF noneI
  by_cases q2 : q = 2 + ar * 2
  · rw [if_pos q2, if_neg (by omega), if_neg (by omega), if_pos q2, q2]
  · rw [if_neg q2]
    by_cases q1 : q = 1 + ar * 2
    · rw [if_pos q1, if_neg (by omega), if_pos q1, q1]
    · rw [if_neg q1]
      by_cases q0 : q = 0
      · rw [if_pos q0, if_pos q0]
      · rw [if_neg q0, if_neg q0, if_neg q1, if_neg q2, if_neg (by show ¬ (5 ≤ q ∧ q < 5 + ((0 : Nat) : Int)); omega)]
theorem ful_put {ar : Int} (h0 : 0 ≤ ar) (h1 : ar ≤ 1) (ep : Int) (L : List ObS) (K : List RcS) (r : RcS) : putB (fulF ar ep L K) (5 + (K.length : Int)) (seB (5 + (K.length : Int)) (ep + (K.length : Int) + 1) (enR r)) = fulF ar ep L (K ++ [r]) := by
  funext q
  unfold putB
  by_cases e : q = 5 + (K.length : Int)
  · rw [if_pos e]
    unfold fulF
    rw [if_neg (by omega), if_neg (by omega), if_neg (by omega), if_pos (by rw [List.length_append]; simp; omega)]
    have e2 : (q - 5).toNat = K.length := by omega
    have e3 : q - 5 = (K.length : Int) := by omega
    rw [e2, e3, e]
    simp [List.getD]
  · rw [if_neg e]
    unfold fulF
    by_cases q0 : q = 0
    · rw [if_pos q0, if_pos q0]
    · rw [if_neg q0, if_neg q0]
      by_cases q1 : q = 1 + ar * 2
      · rw [if_pos q1, if_pos q1]
      · rw [if_neg q1, if_neg q1]
        by_cases q2 : q = 2 + ar * 2
        · rw [if_pos q2, if_pos q2]
        · rw [if_neg q2, if_neg q2]
          by_cases q3 : 5 ≤ q ∧ q < 5 + (K.length : Int)
          · have hl : (q - 5).toNat < K.length := by omega
            rw [if_pos q3, if_pos (by rw [List.length_append]; simp; omega)]
            congr 3
            simp [List.getD, List.getElem?_append_left hl]
          · rw [if_neg q3, if_neg (by rw [List.length_append]; simp; omega)]
/-- an append, to disks with so many records -/
theorem uni_next {ar ep : Int} {L : List ObS} {K : List RcS} (h0 : 0 ≤ ar) (h1 : ar ≤ 1) (h : UniW a n S (fulF ar ep L K) noneI) (hn : 1 ≤ n) (hg : okG g) (he : 0 ≤ ep ∧ ep ≤ mo18) (hS : 5 + g.t ≤ (S : Int)) (r : RcS) :
    (OkR r ∧ K.length < g.t.toNat → apX a g ep (K.length : Int) r = 0 ∧ UniW (apS a g ep (K.length : Int) r) n S (fulF ar ep L (K ++ [r])) noneI) ∧ (¬ (OkR r ∧ K.length < g.t.toNat) → ¬ apX a g ep (K.length : Int) r = 0 ∧ apS a g ep (K.length : Int) r = a) := by
  refine ⟨fun q => ?_, fun q => ?_⟩
  · have hP : apP g ep (K.length : Int) r = 0 := by
      unfold apP
      rw [if_neg (fun k => k hg), if_neg (fun k => k ⟨he.1, by omega, he.2, q.1⟩), if_neg (by omega)]
    obtain ⟨u1, u2⟩ := uni_app h hn hP hS
    rw [ful_put h0 h1] at u2
    exact ⟨u1, u2⟩
  · have hP : ¬ apP g ep (K.length : Int) r = 0 := by
      unfold apP
      rw [if_neg (fun k => k hg)]
      by_cases k : OkR r
      · rw [if_neg (fun k2 => k2 ⟨he.1, by omega, he.2, k⟩), if_pos (by have := mt (fun x => And.intro k x) q; omega)]
        decide
      · rw [if_pos (fun k2 => k k2.2.2.2)]
        decide
    unfold apX apS
    rw [if_pos hP, if_pos hP]
    exact ⟨hP, rfl⟩
/-- what is told where all that say something say one thing -/
theorem told_one {K : List Bool} {ad e : Int} {d : List UInt8} (ho : a.off = false) {k : Nat} (hk : k < a.D.length) (hv : isV (sayV a ad k) e d = true) (h : ∀ i, i < a.D.length → (sayV a ad i).is = true → (sayV a ad i).ep = e ∧ (sayV a ad i).da = d) : (rvV a K ad).has = true ∧ (rvV a K ad).ep = e ∧ (rvV a K ad).da = d := by
  unfold rvV
  rw [if_neg (by rw [ho]; decide), vo_top (top_one hk hv h) K]
  exact ⟨rfl, rfl, rfl⟩
theorem told_none {K : List Bool} {ad : Int} (ho : a.off = false) (h : ∀ i, i < a.D.length → (sayV a ad i).is = false) : (rvV a K ad).has = false ∧ (rvV a K ad).ep = 0 ∧ (rvV a K ad).da = [] := by
  unfold rvV
  rw [if_neg (by rw [ho]; decide), vo_none (fun i hi => by rw [sayL_length] at hi; rw [sF_say hi]; exact h i hi) K]
  exact ⟨rfl, rfl, rfl⟩
theorem wi_some {S : List SaS} {K : List Bool} {k : Nat} (hk : hb K k = true) (h : (sF S k).is = true ∨ (sF S k).no = true) : ∀ r, k < r → wiF S K r = true
  | 0, h0 => by omega
  | r + 1, h0 => by
    unfold wiF
    by_cases e : k = r
    · subst e
      rw [hk]
      rcases h with h | h <;> rw [h] <;> simp
    · rw [wi_some hk h r (by omega)]
      rfl
theorem told_wit {K : List Bool} {ad : Int} (ho : a.off = false) {k : Nat} (hk : k < a.D.length) (hK : hb K k = true) (h : (sayV a ad k).is = true ∨ (sayV a ad k).no = true) : (rvV a K ad).wi = true := by
  unfold rvV
  rw [if_neg (by rw [ho]; decide)]
  have e : (votS (sayL a ad) K).wi = wiF (sayL a ad) K a.D.length := by
    unfold votS
    rw [vot_wi, sayL_length]
  rw [e]
  exact wi_some hK (by rw [sF_say hk]; exact h) _ hk
/-- disks that hold F, or nothing, or (at some places) N; one of them holds F, and N perhaps, and knows -/
structure Seen (a : ArS) (K : List Bool) (k S : Nat) (F N : Int → Option (List UInt8)) : Prop where
  calm : Calm a
  hk : k < a.D.length
  hK : hb K k = true
  each : ∀ i : Nat, i < a.D.length → ∀ q, rdB (diA a (i : Int)) q = [] ∨ F q = some (rdB (diA a (i : Int)) q) ∨ N q = some (rdB (diA a (i : Int)) q)
  keep : ∀ q, 0 ≤ q → q < (S : Int) → faX (diA a (k : Int)) q = 0 ∧ (N q = none → rdB (diA a (k : Int)) q = (F q).getD [])
section
variable {K : List Bool} {k : Nat} {N : Int → Option (List UInt8)}
theorem seen_no (h : Seen a K k S F N) {i : Nat} (hi : i < a.D.length) {q : Int} (he : rdB (diA a (i : Int)) q = []) : (sayV a q i).is = false := say_no h.calm.1 hi (by rw [he]; intro u; have := u.1; simp at this)
theorem seen_is (h : Seen a K k S F N) {i : Nat} (hi : i < a.D.length) {q e : Int} {d : List UInt8} (hs : OkSe q e d.length) (he : rdB (diA a (i : Int)) q = seB q e d) : sayV a q i = ⟨true, false, e, d⟩ := by
  have hne : seB q e d ≠ [] := fun k => by have := congrArg List.length k; rw [show seB q e d = pkS q.toNat e.toNat d from rfl, pk_length] at this; simp at this
  exact say_at h.calm.1 hi (rdB_some he hne).1 he hs
theorem seen_wit (h : Seen a K k S F N) {q : Int} (q0 : 0 ≤ q) (q1 : q < (S : Int)) (hs : (sayV a q k).is = true ∨ rdB (diA a (k : Int)) q = []) : (rvV a K q).wi = true := by
  refine told_wit h.calm.1 h.hk h.hK ?_
  rcases hs with hs | hs
  · exact Or.inl hs
  · right
    have ht : thA a (k : Int) := ⟨by omega, by have := h.hk; omega⟩
    show decide (rdAX a (k : Int) q = 0 ∧ rdAB a (k : Int) q = []) = true
    rw [decide_eq_true_eq, rdAX_at h.calm.1 ht, rd_at h.calm.1 ht]
    exact ⟨(h.keep q q0 q1).1, hs⟩
/-- a place where nothing was cut, and something lies -/
theorem seen_old (h : Seen a K k S F N) {q e : Int} {d : List UInt8} (q0 : 0 ≤ q) (q1 : q < (S : Int)) (hN : N q = none) (hF : F q = some (seB q e d)) (hs : OkSe q e d.length) : (rvV a K q).has = true ∧ (rvV a K q).ep = e ∧ (rvV a K q).da = d ∧ (rvV a K q).wi = true := by
  have hk : rdB (diA a (k : Int)) q = seB q e d := by rw [(h.keep q q0 q1).2 hN, hF]; rfl
  have sk := seen_is h h.hk hs hk
  obtain ⟨t1, t2, t3⟩ := told_one (K := K) h.calm.1 h.hk (isV_mk sk) (fun i hi his => by
    rcases h.each i hi q with k1 | k1 | k1
    · rw [seen_no h hi k1] at his; cases his
    · rw [hF] at k1
      have := seen_is h hi hs (Option.some.inj k1).symm
      rw [this]; exact ⟨rfl, rfl⟩
    · rw [hN] at k1; cases k1)
  exact ⟨t1, t2, t3, seen_wit h q0 q1 (Or.inl (by rw [sk]))⟩
/-- .. where nothing lies -/
theorem seen_nil (h : Seen a K k S F N) {q : Int} (q0 : 0 ≤ q) (q1 : q < (S : Int)) (hN : N q = none) (hF : F q = none) : (rvV a K q).has = false ∧ (rvV a K q).ep = 0 ∧ (rvV a K q).da = [] ∧ (rvV a K q).wi = true := by
  have all : ∀ i : Nat, i < a.D.length → rdB (diA a (i : Int)) q = [] := fun i hi => by
    rcases h.each i hi q with k1 | k1 | k1
    · exact k1
    · rw [hF] at k1; cases k1
    · rw [hN] at k1; cases k1
  obtain ⟨t1, t2, t3⟩ := told_none (K := K) (ad := q) h.calm.1 (fun i hi => seen_no h hi (all i hi))
  exact ⟨t1, t2, t3, seen_wit h q0 q1 (Or.inr (all k h.hk))⟩
/-- .. where something was cut, and nothing lay -/
theorem seen_new (h : Seen a K k S F N) {q e : Int} {d : List UInt8} (q0 : 0 ≤ q) (q1 : q < (S : Int)) (hF : F q = none) (hN : N q = some (seB q e d)) (hs : OkSe q e d.length) : (((rvV a K q).has = true ∧ (rvV a K q).ep = e ∧ (rvV a K q).da = d) ∨ (rvV a K q).has = false) ∧ (rvV a K q).wi = true := by
  have one : ∀ i : Nat, i < a.D.length → rdB (diA a (i : Int)) q = [] ∨ rdB (diA a (i : Int)) q = seB q e d := fun i hi => by
    rcases h.each i hi q with k1 | k1 | k1
    · exact Or.inl k1
    · rw [hF] at k1; cases k1
    · rw [hN] at k1; exact Or.inr (Option.some.inj k1).symm
  refine ⟨?_, ?_⟩
  · by_cases q : ∃ i, i < a.D.length ∧ rdB (diA a (i : Int)) q = seB q e d
    · obtain ⟨j, hj, hjj⟩ := q
      refine Or.inl (told_one h.calm.1 hj (isV_mk (seen_is h hj hs hjj)) fun i hi his => ?_)
      rcases one i hi with k1 | k1
      · rw [seen_no h hi k1] at his; cases his
      · rw [seen_is h hi hs k1]; exact ⟨rfl, rfl⟩
    · refine Or.inr (told_none h.calm.1 fun i hi => ?_).1
      rcases one i hi with k1 | k1
      · exact seen_no h hi k1
      · exact absurd ⟨i, hi, k1⟩ q
  · rcases one k h.hk with k1 | k1
    · exact seen_wit h q0 q1 (Or.inr k1)
    · exact seen_wit h q0 q1 (Or.inl (by rw [seen_is h h.hk hs k1]))
/-- the area that was saved is told whole -/
theorem seen_area {ar ep : Int} {L : List ObS} {R : List RcS} (h : Seen a K k S (fulF ar ep L R) N) (hP : svP g ar ep L = 0) (hS : (5 : Int) ≤ S) (hN1 : N (1 + ar * 2) = none) (hN2 : N (2 + ar * 2) = none) :
    (onA a g K ar).ep = ep ∧ (onA a g K ar).ob = L ∧ (onA a g K ar).whole = true := by
  obtain ⟨m1, m2, m3, m4, m5, m6⟩ := sv_may hP
  obtain ⟨s1, s2⟩ := sv_se hP
  have a0 := ar_at m1 m2 m3 (i := 0) (by omega) (by omega)
  have a1 := ar_at m1 m2 m3 (i := 1) (by omega) (by omega)
  have e0 : (1 + ar * 2 + 0 : Int) = 1 + ar * 2 := by omega
  have e1 : (1 + ar * 2 + 1 : Int) = 2 + ar * 2 := by omega
  rw [e0] at a0
  rw [e1] at a1
  rw [a0] at s1
  rw [a1] at s2
  have f1 : fulF ar ep L R (1 + ar * 2) = some (seB (1 + ar * 2) ep ((snB L).take 4096)) := by unfold fulF; rw [if_neg (by omega), if_pos rfl]
  have f2 : fulF ar ep L R (2 + ar * 2) = some (seB (2 + ar * 2) ep ((snB L).drop 4096)) := by unfold fulF; rw [if_neg (by omega), if_neg (by omega), if_pos rfl]
  obtain ⟨x1, x2, x3, x4⟩ := seen_old h (by omega) (by omega) hN1 f1 s1
  obtain ⟨y1, y2, y3, y4⟩ := seen_old h (by omega) (by omega) hN2 f2 s2
  have eL : onL [(snB L).take 4096, (snB L).drop 4096] = some L := onL_some (isP_sn m6)
  have v0 : onV a g K ar 0 = rvV a K (1 + ar * 2) := by unfold onV; rw [a0]
  have v1 : onV a g K ar 1 = rvV a K (2 + ar * 2) := by unfold onV; rw [a1]
  unfold onA
  rw [v0, v1, x1, x2, x3, y1, y2, y3, eL]
  exact ⟨rfl, rfl, by simp⟩
/-- an area in which nothing lies -/
theorem seen_bare {ar : Int} (h : Seen a K k S F N) (hg : okG g) (h0 : 0 ≤ ar) (h1 : ar ≤ 1) (hS : (5 : Int) ≤ S) (hF1 : F (1 + ar * 2) = none) (hF2 : F (2 + ar * 2) = none) (hN1 : N (1 + ar * 2) = none) (hN2 : N (2 + ar * 2) = none) : (onA a g K ar).whole = false ∧ (onA a g K ar).wit = true := by
  have a0 := ar_at hg h0 h1 (i := 0) (by omega) (by omega)
  have a1 := ar_at hg h0 h1 (i := 1) (by omega) (by omega)
  have e0 : (1 + ar * 2 + 0 : Int) = 1 + ar * 2 := by omega
  have e1 : (1 + ar * 2 + 1 : Int) = 2 + ar * 2 := by omega
  rw [e0] at a0
  rw [e1] at a1
  obtain ⟨x1, x2, x3, x4⟩ := seen_nil h (by omega) (by omega) hN1 hF1
  obtain ⟨y1, y2, y3, y4⟩ := seen_nil h (by omega) (by omega) hN2 hF2
  have v0 : onV a g K ar 0 = rvV a K (1 + ar * 2) := by unfold onV; rw [a0]
  have v1 : onV a g K ar 1 = rvV a K (2 + ar * 2) := by unfold onV; rw [a1]
  unfold onA
  rw [v0, v1, x1, x4, y4]
  exact ⟨by simp, rfl⟩
/-- an area whose checkpoint was cut: all, or nothing -/
theorem seen_cut {ar ep : Int} {L : List ObS} (h : Seen a K k S F N) (hP : svP g ar ep L = 0) (hS : (5 : Int) ≤ S) (hF1 : F (1 + ar * 2) = none) (hF2 : F (2 + ar * 2) = none) (hN1 : N (1 + ar * 2) = some (seB (1 + ar * 2) ep ((snB L).take 4096))) (hN2 : N (2 + ar * 2) = some (seB (2 + ar * 2) ep ((snB L).drop 4096))) :
    (onA a g K ar).wit = true ∧ ((onA a g K ar).whole = false ∨ ((onA a g K ar).whole = true ∧ (onA a g K ar).ep = ep ∧ (onA a g K ar).ob = L)) := by
  obtain ⟨m1, m2, m3, m4, m5, m6⟩ := sv_may hP
  obtain ⟨s1, s2⟩ := sv_se hP
  have a0 := ar_at m1 m2 m3 (i := 0) (by omega) (by omega)
  have a1 := ar_at m1 m2 m3 (i := 1) (by omega) (by omega)
  have e0 : (1 + ar * 2 + 0 : Int) = 1 + ar * 2 := by omega
  have e1 : (1 + ar * 2 + 1 : Int) = 2 + ar * 2 := by omega
  rw [e0] at a0
  rw [e1] at a1
  rw [a0] at s1
  rw [a1] at s2
  obtain ⟨x, x4⟩ := seen_new h (by omega) (by omega) hF1 hN1 s1
  obtain ⟨y, y4⟩ := seen_new h (by omega) (by omega) hF2 hN2 s2
  have eL : onL [(snB L).take 4096, (snB L).drop 4096] = some L := onL_some (isP_sn m6)
  have v0 : onV a g K ar 0 = rvV a K (1 + ar * 2) := by unfold onV; rw [a0]
  have v1 : onV a g K ar 1 = rvV a K (2 + ar * 2) := by unfold onV; rw [a1]
  unfold onA
  rw [v0, v1, x4, y4]
  refine ⟨rfl, ?_⟩
  rcases x with ⟨x1, x2, x3⟩ | x1
  · rcases y with ⟨y1, y2, y3⟩ | y1
    · rw [x1, x2, x3, y1, y2, y3, eL]
      exact Or.inr ⟨by simp, rfl, rfl⟩
    · rw [y1]; exact Or.inl (by simp)
  · rw [x1]; exact Or.inl (by simp)
theorem latest_old {ar : Int} (hg : okG g) (ho : a.off = false) (h01 : ar = 0 ∨ ar = 1) (hA : (onA a g K ar).whole = true) (hB : (onA a g K (1 - ar)).whole = false ∧ (onA a g K (1 - ar)).wit = true) : ltX a g K = 0 ∧ ltA a g K = onA a g K ar := by
  have x0 : ltX a g K = ltE (onA a g K 0) (onA a g K 1) := by unfold ltX; rw [if_neg (fun k => k hg), if_neg (by rw [ho]; decide)]
  unfold ltA
  rw [x0]
  rcases h01 with rfl | rfl
  · rw [show (1 - 0 : Int) = 1 from rfl] at hB
    have e : ltE (onA a g K 0) (onA a g K 1) = 0 := by unfold ltE; rw [hA, hB.1, hB.2]; simp
    rw [e, if_pos rfl]
    refine ⟨rfl, ?_⟩
    unfold ltW
    rw [hA, hB.1]; simp
  · rw [show (1 - 1 : Int) = 0 from rfl] at hB
    have e : ltE (onA a g K 0) (onA a g K 1) = 0 := by unfold ltE; rw [hA, hB.1, hB.2]; simp
    rw [e, if_pos rfl]
    refine ⟨rfl, ?_⟩
    unfold ltW
    rw [hB.1]; simp
theorem latest_new {ar : Int} (hg : okG g) (ho : a.off = false) (h01 : ar = 0 ∨ ar = 1) (hA : (onA a g K ar).whole = true) (hB : (onA a g K (1 - ar)).whole = true) (he : (onA a g K ar).ep < (onA a g K (1 - ar)).ep) : ltX a g K = 0 ∧ ltA a g K = onA a g K (1 - ar) := by
  have x0 : ltX a g K = ltE (onA a g K 0) (onA a g K 1) := by unfold ltX; rw [if_neg (fun k => k hg), if_neg (by rw [ho]; decide)]
  unfold ltA
  rw [x0]
  rcases h01 with rfl | rfl
  · rw [show (1 - 0 : Int) = 1 from rfl] at hB he ⊢
    have e : ltE (onA a g K 0) (onA a g K 1) = 0 := by unfold ltE; rw [hA, hB]; simp
    rw [e, if_pos rfl]
    refine ⟨rfl, ?_⟩
    unfold ltW
    rw [if_pos (Or.inr ⟨hB, he⟩)]
  · rw [show (1 - 1 : Int) = 0 from rfl] at hB he ⊢
    have e : ltE (onA a g K 0) (onA a g K 1) = 0 := by unfold ltE; rw [hA, hB]; simp
    rw [e, if_pos rfl]
    refine ⟨rfl, ?_⟩
    unfold ltW
    rw [if_neg]
    rintro (q | q)
    · rw [hB] at q; cases q
    · omega
/-- a record's sector may be -/
theorem rec_se {ep : Int} {i : Nat} {r : RcS} (he : 0 ≤ ep ∧ ep ≤ mo18) (hr : OkR r) (hi : i < 64) : OkSe (5 + (i : Int)) (ep + (i : Int) + 1) (enR r).length := by
  have hk := hr.2.2.1
  have hs := hr.2.2.2.2.2.1
  unfold mo18 at he
  rw [enR_length]
  exact ⟨⟨by omega, by omega⟩, ⟨by omega, by omega⟩, by omega⟩
theorem sl_at (hg : okG g) {i : Nat} (hi : i < g.t.toNat) : slG g (i : Int) = 5 + (i : Int) := if_pos ⟨hg, by omega, by omega⟩
theorem ful_slot {ar ep : Int} {L : List ObS} {R : List RcS} (h0 : 0 ≤ ar) (h1 : ar ≤ 1) {i : Nat} : fulF ar ep L R (5 + (i : Int)) = if i < R.length then some (seB (5 + (i : Int)) (ep + (i : Int) + 1) (enR (R.getD i default))) else none := by
  unfold fulF
  rw [if_neg (by omega), if_neg (by omega), if_neg (by omega)]
  have e : (5 + (i : Int) - 5).toNat = i := by omega
  have e2 : 5 + (i : Int) - 5 = (i : Int) := by omega
  rw [e, e2]
  by_cases q : i < R.length
  · rw [if_pos (by omega), if_pos q]
  · rw [if_neg (by omega), if_neg q]
/-- a slot whose record is whole, and the first one behind them -/
theorem seen_slot {ar ep : Int} {L : List ObS} {R : List RcS} (h : Seen a K k S (fulF ar ep L R) N) (hg : okG g) (h0 : 0 ≤ ar) (h1 : ar ≤ 1) (he : 0 ≤ ep ∧ ep ≤ mo18) (hR : ∀ x ∈ R, OkR x) (hS : 5 + g.t ≤ (S : Int)) {i : Nat} (hi : i < g.t.toNat) (hN : N (5 + (i : Int)) = none) :
    (i < R.length → rlF a g K ep i = true ∧ raR (rlV a g K i).da = R.getD i default) ∧ (R.length ≤ i → rlF a g K ep i = false ∧ (rlV a g K i).wi = true) := by
  have ht : g.t ≤ 64 := by
    obtain ⟨_, _, _, _, _, _, _, _, q, _⟩ := hg
    exact q
  have fs := @ful_slot ar ep L R h0 h1 i
  have eV : rlV a g K i = rvV a K (5 + (i : Int)) := by unfold rlV; rw [sl_at hg hi]
  refine ⟨fun q => ?_, fun q => ?_⟩
  · rw [if_pos q] at fs
    have ok : OkR (R.getD i default) := hR _ (by rw [show R.getD i default = R[i] by simp [List.getD, q]]; exact List.getElem_mem q)
    obtain ⟨x1, x2, x3, x4⟩ := seen_old h (by omega) (by omega) hN fs (rec_se he ok (by omega))
    obtain ⟨y1, y2⟩ := isR_en ok
    rw [eV, x3, y2]
    refine ⟨?_, rfl⟩
    unfold rlF
    rw [eV, x1, x2, x3]
    exact @decide_eq_true _ (Classical.propDecidable _) ⟨rfl, rfl, y1⟩
  · rw [if_neg (by omega)] at fs
    obtain ⟨x1, x2, x3, x4⟩ := seen_nil h (by omega) (by omega) hN fs
    rw [eV]
    refine ⟨?_, x4⟩
    unfold rlF
    rw [eV, x1]
    exact @decide_eq_false _ (Classical.propDecidable _) (fun k => by cases k.1)
theorem slot_cut {ar ep : Int} {L : List ObS} {R : List RcS} {r : RcS} (h : Seen a K k S (fulF ar ep L R) N) (hg : okG g) (h0 : 0 ≤ ar) (h1 : ar ≤ 1) (he : 0 ≤ ep ∧ ep ≤ mo18) (hr : OkR r) (hS : 5 + g.t ≤ (S : Int)) (hi : R.length < g.t.toNat) (hN : N (5 + (R.length : Int)) = some (seB (5 + (R.length : Int)) (ep + (R.length : Int) + 1) (enR r))) :
    (rlF a g K ep R.length = true ∧ raR (rlV a g K R.length).da = r) ∨ (rlF a g K ep R.length = false ∧ (rlV a g K R.length).wi = true) := by
  have ht : g.t ≤ 64 := by
    obtain ⟨_, _, _, _, _, _, _, _, q, _⟩ := hg
    exact q
  have fs := @ful_slot ar ep L R h0 h1 R.length
  rw [if_neg (by omega)] at fs
  have eV : rlV a g K R.length = rvV a K (5 + (R.length : Int)) := by unfold rlV; rw [sl_at hg hi]
  obtain ⟨x, x4⟩ := seen_new h (by omega) (by omega) fs hN (rec_se he hr (by omega))
  rw [eV]
  rcases x with ⟨x1, x2, x3⟩ | x1
  · obtain ⟨y1, y2⟩ := isR_en hr
    rw [x3, y2]
    refine Or.inl ⟨?_, rfl⟩
    unfold rlF
    rw [eV, x1, x2, x3]
    exact @decide_eq_true _ (Classical.propDecidable _) ⟨rfl, rfl, y1⟩
  · refine Or.inr ⟨?_, x4⟩
    unfold rlF
    rw [eV, x1]
    exact @decide_eq_false _ (Classical.propDecidable _) (fun k => by cases k.1)
/-- what Replay answers of slots of which the first are just R -/
theorem replay_is {ep : Int} {R : List RcS} (hg : okG g) (he : 0 ≤ ep ∧ ep ≤ mo18) (ho : a.off = false) (hl : R.length ≤ g.t.toNat) (hy : ∀ i, i < R.length → rlF a g K ep i = true ∧ raR (rlV a g K i).da = R.getD i default) (hn : R.length < g.t.toNat → rlF a g K ep R.length = false ∧ (rlV a g K R.length).wi = true) : rlX a g K ep = 0 ∧ rlR a g K ep = R := by
  have eM : (List.range R.length).map (fun i => raR (rlV a g K i).da) = R := by
    refine List.ext_getElem (by simp) fun i h1 h2 => ?_
    rw [List.getElem_map, List.getElem_range, (hy i h2).2]
    simp [List.getD, h2]
  have main : rlX a g K ep = if rlN a g K ep < g.t.toNat ∧ (rlV a g K (rlN a g K ep)).wi = false then 150 else 0 := by
    unfold rlX
    rw [if_neg (fun k => k hg), if_neg (fun k => k he), if_neg (by rw [ho]; decide)]
  have eN : rlN a g K ep = R.length := by
    by_cases q : R.length < g.t.toNat
    · exact ru_stop (fun i hi => (hy i hi).1) q (hn q).1
    · have e : g.t.toNat = R.length := by omega
      unfold rlN
      rw [e]
      exact ru_full fun i hi => (hy i hi).1
  rw [eN] at main
  have x : rlX a g K ep = 0 := by
    rw [main, if_neg]
    rintro ⟨q, w⟩
    rw [(hn q).2] at w; cases w
  refine ⟨x, ?_⟩
  unfold rlR
  rw [if_pos x, eN, eM]
end
end
end Go.Proofs.YtclieefpnbdbjaaGreat.Gf
