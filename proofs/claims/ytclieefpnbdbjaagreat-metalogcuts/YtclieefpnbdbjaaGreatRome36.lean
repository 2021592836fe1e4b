/- TEXTS JOINED: MeMix, MeLd. -/
import Derived.Test.YtclieefpnbdbjaaGreatRome35
namespace Go.Proofs.YtclieefpnbdbjaaGreat.Gf
set_option linter.unusedVariables false
set_option linter.unusedSimpArgs false
/-- MetalogLasts: all disks but one fail, or are replaced -/
def hlA (keep : Nat) (rep : Bool) (a : ArS) : Nat → ArS
  | 0 => a
  | r + 1 => if r = keep then hlA keep rep a r else if rep = true then rpAS (faAS (hlA keep rep a r) (r : Int)) (r : Int) else faAS (hlA keep rep a r) (r : Int)
def hlD (rep : Bool) (d : DkS) : DkS := if rep = true then reS (faS d) else faS d
section
variable {a : ArS} {n S : Nat} {F N W : Int → Option (List UInt8)} {g : GeoS}
theorem fa_di {i j : Int} (ht : thA a i) (hj : 0 ≤ j) : diA (faAS a i) j = if j = i then faS (diA a i) else diA a j := by
  unfold faAS; rw [if_pos ht, diA_born, diA_set ht _ hj]
theorem rp_di {i j : Int} (ht : thA a i) (hj : 0 ≤ j) : diA (rpAS a i) j = if j = i then reS (diA a i) else diA a j := by
  unfold rpAS; rw [if_pos ht, diA_born, diA_set ht _ hj]
theorem fa_len {i : Int} : (faAS a i).D.length = a.D.length := by
  unfold faAS; split
  · exact setA_len _
  · rfl
theorem rp_len {i : Int} : (rpAS a i).D.length = a.D.length := by
  unfold rpAS; split
  · exact setA_len _
  · rfl
theorem hl_at {keep : Nat} {rep : Bool} (hl : a.D.length = n) : ∀ r, r ≤ n → (hlA keep rep a r).D.length = n ∧ ∀ j : Nat, j < n → diA (hlA keep rep a r) (j : Int) = if j < r ∧ j ≠ keep then hlD rep (diA a (j : Int)) else diA a (j : Int)
  | 0, _ => ⟨hl, fun j _ => by rw [if_neg fun k => by omega]; rfl⟩
  | r + 1, hr => by
    obtain ⟨h1, h2⟩ := hl_at (keep := keep) (rep := rep) hl r (by omega)
    unfold hlA
    by_cases e : r = keep
    · rw [if_pos e]
      refine ⟨h1, fun j hj => ?_⟩
      rw [h2 j hj]
      by_cases q : j < r ∧ j ≠ keep
      · rw [if_pos q, if_pos ⟨by omega, q.2⟩]
      · rw [if_neg q, if_neg fun k => q ⟨by omega, k.2⟩]
    · rw [if_neg e]
      have ht : thA (hlA keep rep a r) (r : Int) := ⟨by omega, by rw [h1]; omega⟩
      have base : ∀ j : Nat, j < n → j ≠ r → (diA (hlA keep rep a r) (j : Int) = if j < r + 1 ∧ j ≠ keep then hlD rep (diA a (j : Int)) else diA a (j : Int)) := fun j hj ej => by
        rw [h2 j hj]
        by_cases q : j < r ∧ j ≠ keep
        · rw [if_pos q, if_pos ⟨by omega, q.2⟩]
        · rw [if_neg q, if_neg fun k => q ⟨by omega, k.2⟩]
      have self : diA (hlA keep rep a r) (r : Int) = diA a (r : Int) := by rw [h2 r (by omega), if_neg fun k => by omega]
      by_cases q : rep = true
      · rw [if_pos q]
        have ht2 : thA (faAS (hlA keep rep a r) (r : Int)) (r : Int) := ⟨by omega, by rw [fa_len, h1]; omega⟩
        refine ⟨by rw [rp_len, fa_len, h1], fun j hj => ?_⟩
        rw [rp_di ht2 (by omega)]
        by_cases ej : j = r
        · subst ej
          rw [if_pos rfl, fa_di ht (by omega), if_pos rfl, if_pos ⟨by omega, e⟩, self]
          exact (if_pos q).symm
        · rw [if_neg (by omega), fa_di ht (by omega), if_neg (by omega), base j hj ej]
      · rw [if_neg q]
        refine ⟨by rw [fa_len, h1], fun j hj => ?_⟩
        rw [fa_di ht (by omega)]
        by_cases ej : j = r
        · subst ej
          rw [if_pos rfl, if_pos ⟨by omega, e⟩, self]
          exact (if_neg q).symm
        · rw [if_neg (by omega), base j hj ej]
theorem kn_hb (ho : a.off = false) {i : Nat} (hi : i < a.D.length) : hb (knL a) i = knF a i := by
  unfold knL
  rw [if_neg (by rw [ho]; decide)]
  simp [hb, List.getD, hi]
/-- what is seen behind all but one are hurt -/
theorem seen_hurt (h : UniW a n S F noneI) {keep : Nat} {rep : Bool} (hk : keep < n) (hS : (1 : Int) ≤ S) (hF : F 0 = some lbB) : Seen (reAS (hlA keep rep a n) []) (knL (reAS (hlA keep rep a n) [])) keep S F noneI := by
  obtain ⟨h1, h2⟩ := hl_at (keep := keep) (rep := rep) h.len n (Nat.le_refl _)
  obtain ⟨b, hbb⟩ : ∃ b, b = reAS (hlA keep rep a n) [] := ⟨_, rfl⟩
  have hl : b.D.length = n := by rw [hbb]; simpa [reAS] using h1
  have hc : Calm b := by rw [hbb]; exact calm_re _ _
  have di : ∀ j : Nat, j < n → diA b (j : Int) = if j ≠ keep then (if rep = true then ⟨S, noneI, noneI, false⟩ else ⟨S, noneI, noneI, true⟩) else ⟨S, F, noneI, false⟩ := fun j hj => by
    rw [hbb, di_nat, re_at (by rw [h1]; exact hj)]
    have e := h2 j hj
    rw [di_nat] at e
    rw [e, h.di j hj]
    by_cases q : j ≠ keep
    · rw [if_pos ⟨hj, q⟩, if_pos q]
      unfold hlD
      by_cases q2 : rep = true
      · rw [if_pos q2, if_pos q2]; rfl
      · rw [if_neg q2, if_neg q2]; rfl
    · rw [if_neg fun k => q k.2, if_neg q]
      show (⟨S, overB (onlyB noneI _) F, noneI, false⟩ : DkS) = _
      rw [onlyB_none]
      rfl
  rw [← hbb]
  have dk : diA b (keep : Int) = ⟨S, F, noneI, false⟩ := by rw [di keep hk, if_neg (by simp)]
  have rk : ∀ q, 0 ≤ q → q < (S : Int) → faX (diA b (keep : Int)) q = 0 ∧ rdB (diA b (keep : Int)) q = (F q).getD [] := fun q q0 q1 => by
    rw [dk]
    have f : faX (⟨S, F, noneI, false⟩ : DkS) q = 0 := faX_ok (d := ⟨S, F, noneI, false⟩) rfl ⟨q0, q1⟩
    refine ⟨f, ?_⟩
    unfold rdB
    rw [if_pos f]
    rfl
  refine ⟨hc, by rw [hl]; exact hk, ?_, fun i hi q => ?_, fun q q0 q1 => ⟨(rk q q0 q1).1, fun _ => (rk q q0 q1).2⟩⟩
  · rw [kn_hb hc.1 (by rw [hl]; exact hk), kn_iff hc (by rw [hl]; exact hk), (rk 0 (by omega) (by omega)).2, hF]
    exact decide_eq_true rfl
  · rw [hl] at hi
    by_cases e : i ≠ keep
    · left
      rw [di i hi, if_pos e]
      split
      · unfold rdB; split <;> rfl
      · unfold rdB; split <;> rfl
    · have e : i = keep := by omega
      rw [e]
      by_cases q0 : 0 ≤ q ∧ q < (S : Int)
      · rw [(rk q q0.1 q0.2).2]
        cases F q with
        | none => exact Or.inl rfl
        | some b => exact Or.inr (Or.inl rfl)
      · left
        rw [dk]
        unfold rdB
        rw [if_neg]
        intro k
        exact q0 (faX_zero k).2
/-- a disk that holds what it held, or (at some places) what was written since -/
structure MixD (S : Nat) (F N : Int → Option (List UInt8)) (d : DkS) : Prop where
  s : d.s = S
  dead : d.dead = false
  la : ∀ q, d.last q = F q ∨ (N q ≠ none ∧ d.last q = N q)
  wa : ∀ q, d.wait q = none ∨ (N q ≠ none ∧ d.wait q = N q)
def MixA (a : ArS) (n S : Nat) (F N : Int → Option (List UInt8)) : Prop := a.D.length = n ∧ ∀ i : Nat, i < n → MixD S F N (diA a (i : Int))
theorem mix_wrD {d : DkS} (h : MixD S F N d) {ad : Int} {b : List UInt8} (hN : N ad = some b) : MixD S F N (wrS d ad b) := by
  unfold wrS
  split
  · refine ⟨h.s, h.dead, h.la, fun q => ?_⟩
    show putB d.wait ad b q = none ∨ _
    unfold putB
    by_cases e : q = ad
    · right
      rw [e, hN]
      refine ⟨by simp, ?_⟩
      show putB d.wait ad b ad = _
      unfold putB
      rw [if_pos rfl]
    · rw [if_neg e]
      rcases h.wa q with k | k
      · exact Or.inl k
      · refine Or.inr ⟨k.1, ?_⟩
        show putB d.wait ad b q = _
        unfold putB
        rw [if_neg e]
        exact k.2
  · exact h
theorem mix_over {d : DkS} (h : MixD S F N d) {f : Int → Option (List UInt8)} (hf : ∀ q, f q = none ∨ f q = d.wait q) : ∀ q, overB f d.last q = F q ∨ (N q ≠ none ∧ overB f d.last q = N q) := fun q => by
  unfold overB
  cases e : f q with
  | none => exact h.la q
  | some b =>
    rcases hf q with k | k
    · rw [k] at e; cases e
    · rw [e] at k
      rcases h.wa q with x | x
      · rw [x] at k; cases k
      · exact Or.inr ⟨x.1, k.trans x.2⟩
theorem mix_flD {d : DkS} (h : MixD S F N d) : MixD S F N (flS d) := by
  unfold flS
  rw [if_neg (by rw [h.dead]; decide)]
  exact ⟨h.s, h.dead, mix_over h fun q => Or.inr rfl, fun q => Or.inl rfl⟩
theorem mix_crD {d : DkS} (h : MixD S F N d) (K : List Int) : MixD S F N (crS d K) ∧ (crS d K).wait = noneI := by
  refine ⟨⟨h.s, h.dead, mix_over h fun q => ?_, fun q => Or.inl rfl⟩, rfl⟩
  unfold onlyB
  split
  · exact Or.inr rfl
  · exact Or.inl rfl
theorem mix_uni (h : UniW a n S F noneI) : MixA a n S F N := ⟨h.len, fun i hi => by rw [h.di i hi]; exact ⟨rfl, rfl, fun q => Or.inl rfl, fun q => Or.inl rfl⟩⟩
theorem mix_D {a' : ArS} (h : MixA a n S F N) (e : a'.D = a.D) : MixA a' n S F N := by
  refine ⟨by rw [e]; exact h.1, fun i hi => ?_⟩
  have := h.2 i hi
  rw [di_nat] at this ⊢
  rw [e]; exact this
theorem mix_set (h : MixA a n S F N) {i : Int} (ht : thA a i) {d : DkS} (hd : MixD S F N d) : MixA (setA a i d) n S F N := ⟨by rw [setA_len]; exact h.1, fun j hj => by
  rw [diA_set ht _ (by omega)]
  split
  · exact hd
  · exact h.2 j hj⟩
theorem mix_at (h : MixA a n S F N) {i : Int} (ht : thA a i) : MixD S F N (diA a i) := by
  obtain ⟨h0, h1⟩ := ht
  have := h.2 i.toNat (by have := h.1; omega)
  rwa [Int.toNat_of_nonneg h0] at this
theorem mix_wr (h : MixA a n S F N) {i ad : Int} {b : List UInt8} (hN : N ad = some b) : MixA (wrAS a i ad b) n S F N := by
  unfold wrAS
  split
  · exact h
  split
  · rename_i ht
    split
    · exact mix_D (mix_set h ht (mix_wrD (mix_at h ht) hN)) (tickA_D _)
    · exact h
  · exact h
theorem mix_pu (h : MixA a n S F N) {ad : Int} {b : List UInt8} (hN : N ad = some b) {tO : Nat → Bool} : ∀ r, MixA (puV a ad b tO r).st n S F N
  | 0 => h
  | r + 1 => by
    have ih := mix_pu h hN (tO := tO) r
    unfold puV
    split
    · exact ih
    split
    · split
      · exact ih
      · exact mix_wr ih hN
    · exact ih
theorem mix_wv (h : MixA a n S F N) {ad e : Int} {d : List UInt8} (hN : N ad = some (seB ad e d)) : MixA (wvP a ad e d).st n S F N := by
  unfold wvP
  split
  · exact mix_pu h hN _
  · exact h
theorem mix_fl (h : MixA a n S F N) : MixA (flAS a) n S F N := by
  unfold flAS
  split
  · exact h
  · refine ⟨by simpa using h.1, fun i hi => ?_⟩
    have hi' : i < a.D.length := by rw [h.1]; exact hi
    have := h.2 i hi
    rw [di_nat] at this ⊢
    show MixD S F N ((a.D.map flS).getD i default)
    rw [show (a.D.map flS).getD i default = flS (a.D.getD i default) by simp [List.getD, hi']]
    exact mix_flD this
theorem mix_ca (h : MixA a n S F N) (k : Int) : MixA (caA a k) n S F N := mix_D h (caA_D _ _)
theorem mix_sv (h : MixA a n S F N) {ar ep : Int} {L : List ObS} (hP : svP g ar ep L = 0) (h1 : N (1 + ar * 2) = some (seB (1 + ar * 2) ep ((snB L).take 4096))) (h2 : N (2 + ar * 2) = some (seB (2 + ar * 2) ep ((snB L).drop 4096))) : MixA (svS a g ar ep L) n S F N := by
  obtain ⟨m1, m2, m3, m4, m5, m6⟩ := sv_may hP
  have a0 := ar_at m1 m2 m3 (i := 0) (by omega) (by omega)
  have a1 := ar_at m1 m2 m3 (i := 1) (by omega) (by omega)
  have e0 : (1 + ar * 2 + 0 : Int) = 1 + ar * 2 := by omega
  have e1 : (1 + ar * 2 + 1 : Int) = 2 + ar * 2 := by omega
  rw [e0] at a0
  rw [e1] at a1
  have hA : MixA (svA a g ar ep L).st n S F N := by unfold svA; rw [a0]; exact mix_wv h h1
  have hB : MixA (svB a g ar ep L).st n S F N := by unfold svB; rw [a1]; exact mix_wv hA h2
  unfold svS
  split
  · exact h
  split
  · exact hA
  split
  · exact hB
  · exact mix_fl hB
theorem mix_ap (h : MixA a n S F N) {base count : Int} {r : RcS} (hP : apP g base count r = 0) (h1 : N (5 + count) = some (seB (5 + count) (base + count + 1) (enR r))) : MixA (apS a g base count r) n S F N := by
  obtain ⟨m1, m2, m3, m4, m5, m6⟩ := ap_may hP
  have e0 : slG g count = 5 + count := if_pos ⟨m1, m3, m6⟩
  have hA : MixA (apW a g base count r).st n S F N := by unfold apW; rw [e0]; exact mix_wv h h1
  unfold apS
  split
  · exact h
  split
  · exact hA
  · exact mix_fl hA
/-- what is seen behind a call was cut, and the power came -/
theorem seen_mix (h : MixA a n S F N) (hn : 1 ≤ n) (K : List (List Int)) (hS : (1 : Int) ≤ S) (hF : F 0 = some lbB) (hN : N 0 = none) : Seen (reAS a K) (knL (reAS a K)) 0 S F N := by
  obtain ⟨b, hbb⟩ : ∃ b, b = reAS a K := ⟨_, rfl⟩
  have hl : b.D.length = n := by rw [hbb]; simpa [reAS] using h.1
  have hc : Calm b := by rw [hbb]; exact calm_re _ _
  have mx : ∀ j : Nat, j < n → MixD S F N (diA b (j : Int)) ∧ (diA b (j : Int)).wait = noneI := fun j hj => by
    have := h.2 j hj
    rw [di_nat] at this
    rw [hbb, di_nat, re_at (by rw [h.1]; exact hj)]
    exact mix_crD this _
  have rd : ∀ j : Nat, j < n → ∀ q, rdB (diA b (j : Int)) q = [] ∨ (rdB (diA b (j : Int)) q = ((diA b (j : Int)).last q).getD []) := fun j hj q => by
    unfold rdB
    split
    · right
      unfold atD
      rw [(mx j hj).2]
      rfl
    · exact Or.inl rfl
  rw [← hbb]
  have kk : ∀ q, 0 ≤ q → q < (S : Int) → faX (diA b ((0 : Nat) : Int)) q = 0 ∧ (N q = none → rdB (diA b ((0 : Nat) : Int)) q = (F q).getD []) := fun q q0 q1 => by
    obtain ⟨m1, m2⟩ := mx 0 hn
    have f : faX (diA b ((0 : Nat) : Int)) q = 0 := faX_ok m1.dead ⟨q0, by rw [m1.s]; exact q1⟩
    refine ⟨f, fun e => ?_⟩
    unfold rdB
    rw [if_pos f]
    unfold atD
    rw [m2]
    show ((diA b ((0 : Nat) : Int)).last q).getD [] = _
    rcases m1.la q with k | k
    · rw [k]
    · exact absurd e k.1
  refine ⟨hc, by rw [hl]; omega, ?_, fun i hi q => ?_, kk⟩
  · rw [kn_hb hc.1 (by rw [hl]; omega), kn_iff hc (by rw [hl]; omega), (kk 0 (by omega) (by omega)).2 hN, hF]
    exact decide_eq_true rfl
  · rw [hl] at hi
    rcases rd i hi q with k | k
    · exact Or.inl k
    · rw [k]
      rcases (mx i hi).1.la q with x | x
      · rw [x]
        cases F q with
        | none => exact Or.inl rfl
        | some b => exact Or.inr (Or.inl rfl)
      · rw [x.2]
        cases e : N q with
        | none => exact absurd e x.1
        | some b => exact Or.inr (Or.inr rfl)
end
end Go.Proofs.YtclieefpnbdbjaaGreat.Gf

namespace Go.Proofs.YtclieefpnbdbjaaGreat.Gf
set_option linter.unusedVariables false
set_option linter.unusedSimpArgs false
/-- records appended one behind the other: the array, and how many were taken -/
def ldA (a : ArS) (g : GeoS) (ep : Int) (l : List RcS) : Nat → ArS × Nat
  | 0 => (a, 0)
  | r + 1 => (apS (ldA a g ep l r).1 g ep ((ldA a g ep l r).2 : Int) (l.getD r default), if apX (ldA a g ep l r).1 g ep ((ldA a g ep l r).2 : Int) (l.getD r default) = 0 then (ldA a g ep l r).2 + 1 else (ldA a g ep l r).2)
theorem ld_at {a : ArS} {n S : Nat} {g : GeoS} {ar ep : Int} {L : List ObS} {l : List RcS} (h0 : 0 ≤ ar) (h1 : ar ≤ 1) (h : UniW a n S (fulF ar ep L []) noneI) (hn : 1 ≤ n) (hg : okG g) (he : 0 ≤ ep ∧ ep ≤ mo18) (hS : 5 + g.t ≤ (S : Int)) : ∀ r, UniW (ldA a g ep l r).1 n S (fulF ar ep L (kpL g l r)) noneI ∧ (ldA a g ep l r).2 = (kpL g l r).length
  | 0 => ⟨h, rfl⟩
  | r + 1 => by
    obtain ⟨i1, i2⟩ := ld_at h0 h1 h hn hg he hS r (l := l)
    obtain ⟨n1, n2⟩ := uni_next h0 h1 i1 hn hg he hS (l.getD r default)
    unfold ldA kpL
    rw [i2]
    by_cases q : OkR (l.getD r default) ∧ (kpL g l r).length < g.t.toNat
    · obtain ⟨k1, k2⟩ := n1 q
      rw [if_pos q, if_pos k1]
      exact ⟨k2, by rw [List.length_append]; rfl⟩
    · obtain ⟨k1, k2⟩ := n2 q
      rw [if_neg q, if_neg k1, k2]
      exact ⟨i1, rfl⟩
/-- behind a label and a checkpoint that may be -/
theorem ld_save {n S : Nat} {g : GeoS} {ar ep : Int} {L : List ObS} (hn : 1 ≤ n) (hS : (5 : Int) ≤ S) (hP : svP g ar ep L = 0) : svX (lbS (newA n S) ((List.range n).map fun (i : Nat) => (i : Int))) g ar ep L = 0 ∧ UniW (svS (lbS (newA n S) ((List.range n).map fun (i : Nat) => (i : Int))) g ar ep L) n S (fulF ar ep L []) noneI := by
  obtain ⟨k1, k2⟩ := uni_save (uni_label (n := n) (S := S) (by omega)) hn hP hS
  rw [ful_label (sv_may hP).2.1] at k2
  exact ⟨k1, k2⟩
theorem ful_zero (ar ep : Int) (L : List ObS) (R : List RcS) : fulF ar ep L R 0 = some lbB := if_pos rfl
theorem ful_other {ar : Int} (h01 : ar = 0 ∨ ar = 1) (ep : Int) (L : List ObS) (R : List RcS) {q : Int} (hq : q = 1 + (1 - ar) * 2 ∨ q = 2 + (1 - ar) * 2) : fulF ar ep L R q = none := by
  unfold fulF
  rw [if_neg (by rcases h01 with rfl | rfl <;> omega), if_neg (by rcases h01 with rfl | rfl <;> omega), if_neg (by rcases h01 with rfl | rfl <;> omega), if_neg (by rcases h01 with rfl | rfl <;> omega)]
/-- MetalogLasts: what is told of disks of which one kept what was laid -/
theorem lasts_all {b : ArS} {K : List Bool} {keep S : Nat} {g : GeoS} {ar ep : Int} {L : List ObS} {R : List RcS} (sn : Seen b K keep S (fulF ar ep L R) noneI) (hP : svP g ar ep L = 0) (hS : 5 + g.t ≤ (S : Int)) (hR : ∀ x ∈ R, OkR x) (hl : R.length ≤ g.t.toNat) :
    ltX b g K = 0 ∧ (ltA b g K).ar = ar ∧ (ltA b g K).ep = ep ∧ (ltA b g K).ob = L ∧ rlX b g K ep = 0 ∧ rlR b g K ep = R := by
  obtain ⟨m1, m2, m3, m4, m5, m6⟩ := sv_may hP
  have h01 : ar = 0 ∨ ar = 1 := by omega
  have ht : 1 ≤ g.t := by
    obtain ⟨_, _, _, _, _, _, _, q, _⟩ := m1
    exact q
  have hS5 : (5 : Int) ≤ (S : Int) := by omega
  obtain ⟨e1, e2, e3⟩ := seen_area sn hP hS5 rfl rfl
  have bare := seen_bare (g := g) (ar := 1 - ar) sn m1 (by omega) (by omega) hS5 (ful_other h01 ep L R (Or.inl rfl)) (ful_other h01 ep L R (Or.inr rfl)) rfl rfl
  obtain ⟨x1, x2⟩ := latest_old m1 sn.calm.1 h01 e3 bare
  have ss := fun (i : Nat) (hi : i < g.t.toNat) => seen_slot (g := g) sn m1 m2 m3 ⟨m4, m5⟩ hR hS hi rfl
  obtain ⟨y1, y2⟩ := replay_is m1 ⟨m4, m5⟩ sn.calm.1 hl (fun i hi => (ss i (by omega)).1 hi) (fun hn => (ss R.length hn).2 (Nat.le_refl _))
  rw [x2]
  exact ⟨x1, rfl, e1, e2, y1, y2⟩
/-- what a cut checkpoint may have left -/
def nwS (ar ep : Int) (L : List ObS) : Int → Option (List UInt8) := putB (putB noneI (1 + ar * 2) (seB (1 + ar * 2) ep ((snB L).take 4096))) (2 + ar * 2) (seB (2 + ar * 2) ep ((snB L).drop 4096))
theorem nwS_1 (ar ep : Int) (L : List ObS) : nwS ar ep L (1 + ar * 2) = some (seB (1 + ar * 2) ep ((snB L).take 4096)) := by
  unfold nwS putB
  rw [if_neg (by omega), if_pos rfl]
theorem nwS_2 (ar ep : Int) (L : List ObS) : nwS ar ep L (2 + ar * 2) = some (seB (2 + ar * 2) ep ((snB L).drop 4096)) := by
  unfold nwS putB
  rw [if_pos rfl]
theorem nwS_no (ar ep : Int) (L : List ObS) {q : Int} (h1 : ¬ q = 1 + ar * 2) (h2 : ¬ q = 2 + ar * 2) : nwS ar ep L q = none := by
  unfold nwS putB
  rw [if_neg h2, if_neg h1]; rfl
/-- MetalogCuts, a checkpoint: the old one or the new one is told -/
theorem cuts_save {b : ArS} {K : List Bool} {keep S : Nat} {g : GeoS} {ar ep ep2 : Int} {L L2 : List ObS} {R : List RcS} (sn : Seen b K keep S (fulF ar ep L R) (nwS (1 - ar) ep2 L2)) (hP : svP g ar ep L = 0) (hP2 : svP g (1 - ar) ep2 L2 = 0) (hlt : ep < ep2) (hS : (5 : Int) ≤ (S : Int)) :
    ltX b g K = 0 ∧ (((ltA b g K).ep = ep ∧ (ltA b g K).ob = L) ∨ ((ltA b g K).ep = ep2 ∧ (ltA b g K).ob = L2)) := by
  obtain ⟨m1, m2, m3, m4, m5, m6⟩ := sv_may hP
  have h01 : ar = 0 ∨ ar = 1 := by omega
  obtain ⟨e1, e2, e3⟩ := seen_area sn hP hS (nwS_no _ _ _ (by omega) (by omega)) (nwS_no _ _ _ (by omega) (by omega))
  obtain ⟨c1, c2⟩ := seen_cut sn hP2 hS (ful_other h01 ep L R (Or.inl rfl)) (ful_other h01 ep L R (Or.inr rfl)) (nwS_1 _ _ _) (nwS_2 _ _ _)
  rcases c2 with c2 | ⟨c2, c3, c4⟩
  · obtain ⟨x1, x2⟩ := latest_old m1 sn.calm.1 h01 e3 ⟨c2, c1⟩
    rw [x2]
    exact ⟨x1, Or.inl ⟨e1, e2⟩⟩
  · obtain ⟨x1, x2⟩ := latest_new m1 sn.calm.1 h01 e3 c2 (by rw [e1, c3]; exact hlt)
    rw [x2]
    exact ⟨x1, Or.inr ⟨c3, c4⟩⟩
/-- what a cut record may have left -/
def nwR (ep : Int) (n : Nat) (r : RcS) : Int → Option (List UInt8) := putB noneI (5 + (n : Int)) (seB (5 + (n : Int)) (ep + (n : Int) + 1) (enR r))
theorem nwR_no (ep : Int) (n : Nat) (r : RcS) {q : Int} (h : ¬ q = 5 + (n : Int)) : nwR ep n r q = none := by
  unfold nwR putB
  rw [if_neg h]; rfl
theorem nwR_at (ep : Int) (n : Nat) (r : RcS) : nwR ep n r (5 + (n : Int)) = some (seB (5 + (n : Int)) (ep + (n : Int) + 1) (enR r)) := by
  unfold nwR putB
  rw [if_pos rfl]
/-- MetalogCuts, a record: it is replayed, or it is not -/
theorem cuts_app {b : ArS} {K : List Bool} {keep S : Nat} {g : GeoS} {ar ep : Int} {L : List ObS} {R : List RcS} {r : RcS} (sn : Seen b K keep S (fulF ar ep L R) (nwR ep R.length r)) (hP : svP g ar ep L = 0) (hS : 5 + g.t ≤ (S : Int)) (hR : ∀ x ∈ R, OkR x) (hr : OkR r) (hl : R.length < g.t.toNat) :
    ltX b g K = 0 ∧ (ltA b g K).ep = ep ∧ (ltA b g K).ob = L ∧ rlX b g K ep = 0 ∧ (rlR b g K ep = R ∨ rlR b g K ep = R ++ [r]) := by
  obtain ⟨m1, m2, m3, m4, m5, m6⟩ := sv_may hP
  have h01 : ar = 0 ∨ ar = 1 := by omega
  have ht : 1 ≤ g.t := by
    obtain ⟨_, _, _, _, _, _, _, q, _⟩ := m1
    exact q
  have hS5 : (5 : Int) ≤ (S : Int) := by omega
  obtain ⟨e1, e2, e3⟩ := seen_area sn hP hS5 (nwR_no _ _ _ (by omega)) (nwR_no _ _ _ (by omega))
  have bare := seen_bare (g := g) (ar := 1 - ar) sn m1 (by omega) (by omega) hS5 (ful_other h01 ep L R (Or.inl rfl)) (ful_other h01 ep L R (Or.inr rfl)) (nwR_no _ _ _ (by omega)) (nwR_no _ _ _ (by omega))
  obtain ⟨x1, x2⟩ := latest_old m1 sn.calm.1 h01 e3 bare
  have ss := fun (i : Nat) (hi : i < g.t.toNat) (hn : i ≠ R.length) => seen_slot (g := g) sn m1 m2 m3 ⟨m4, m5⟩ hR hS hi (nwR_no _ _ _ (by omega))
  have sc := slot_cut sn m1 m2 m3 ⟨m4, m5⟩ hr hS hl (nwR_at _ _ _)
  rw [x2]
  refine ⟨x1, e1, e2, ?_⟩
  rcases sc with ⟨s1, s2⟩ | ⟨s1, s2⟩
  · obtain ⟨y1, y2⟩ := replay_is m1 ⟨m4, m5⟩ sn.calm.1 (R := R ++ [r]) (by simp; omega) (fun i hi => by
      rw [List.length_append] at hi
      by_cases q : i = R.length
      · rw [q]; exact ⟨s1, by rw [s2]; simp [List.getD]⟩
      · have hi2 : i < R.length := by simp at hi; omega
        obtain ⟨a1, a2⟩ := (ss i (by omega) q).1 hi2
        exact ⟨a1, by rw [a2]; simp [List.getD, List.getElem?_append, hi2]⟩) (fun hn => by
      rw [List.length_append] at hn ⊢
      exact (ss (R.length + 1) hn (by omega)).2 (by omega))
    exact ⟨y1, Or.inr y2⟩
  · obtain ⟨y1, y2⟩ := replay_is m1 ⟨m4, m5⟩ sn.calm.1 (R := R) (by omega) (fun i hi => (ss i (by omega) (by omega)).1 hi) (fun hn => ⟨s1, s2⟩)
    exact ⟨y1, Or.inl y2⟩
end Go.Proofs.YtclieefpnbdbjaaGreat.Gf
