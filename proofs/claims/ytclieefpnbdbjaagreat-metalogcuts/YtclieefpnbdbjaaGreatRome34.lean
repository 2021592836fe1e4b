/- TEXTS JOINED: MeMath, MeUni. -/
import Derived.Test.YtclieefpnbdbjaaGreatRome28
import Derived.Test.YtclieefpnbdbjaaGreatRome16
namespace Go.Proofs.YtclieefpnbdbjaaGreat.Gf
set_option linter.unusedVariables false
set_option linter.unusedSimpArgs false
/-- the label, as a sector -/
def lbB : List UInt8 := pkS 0 0 [76]
theorem lb_ok : OkSe 0 0 ([76] : List UInt8).length := ⟨⟨by decide, by decide⟩, ⟨by decide, by decide⟩, by decide⟩
theorem lb_okb : OkB lbB := by
  have := pk_length (a := 0) (e := 0) (d := [76])
  exact ⟨by rw [show lbB = pkS 0 0 [76] from rfl, pk_length]; decide, by rw [show lbB = pkS 0 0 [76] from rfl, pk_length]; decide⟩
section
variable {a : ArS}
/-- the label written to the first r of a list of disks -/
def lbV (a : ArS) (l : List Int) : Nat → PuS
  | 0 => ⟨false, 0, a⟩
  | r + 1 => if (lbV a l r).cr = true then lbV a l r else if wrAX (lbV a l r).st (l.getD r 0) 0 lbB = 130 then ⟨true, 0, (lbV a l r).st⟩ else ⟨false, 0, wrAS (lbV a l r).st (l.getD r 0) 0 lbB⟩
theorem lbV_len {l : List Int} : ∀ r, (lbV a l r).st.D.length = a.D.length
  | 0 => rfl
  | r + 1 => by
    have ih := lbV_len (l := l) r
    unfold lbV
    split
    · exact ih
    split
    · exact ih
    · show (wrAS _ _ _ _).D.length = _
      rw [wrAS_len, ih]
theorem lb_cr {l : List Int} {r n : Nat} (hc : (lbV a l r).cr = false) (hx : wrAX (lbV a l r).st (l.getD r 0) 0 lbB = 130) (hr : r < n) : lbV a l n = ⟨true, 0, (lbV a l r).st⟩ := by
  obtain ⟨k, rfl⟩ := Nat.exists_eq_add_of_lt hr
  induction k with
  | zero =>
    show lbV a l (r + 1) = _
    rw [lbV, if_neg (by rw [hc]; decide), if_pos hx]
  | succ k ih =>
    have e := ih (by omega)
    rw [show r + (k + 1) + 1 = (r + k + 1) + 1 by omega, lbV, e]
    rfl
theorem lb_go {l : List Int} {r : Nat} (hc : (lbV a l r).cr = false) (hx : ¬ wrAX (lbV a l r).st (l.getD r 0) 0 lbB = 130) : lbV a l (r + 1) = ⟨false, 0, wrAS (lbV a l r).st (l.getD r 0) 0 lbB⟩ := by
  rw [lbV, if_neg (by rw [hc]; decide), if_neg hx]
def lbX (a : ArS) (l : List Int) : Int := if (lbV a l l.length).cr = true then 130 else flAX (lbV a l l.length).st
def lbS (a : ArS) (l : List Int) : ArS := if (lbV a l l.length).cr = true then (lbV a l l.length).st else flAS (lbV a l l.length).st
theorem flAS_len : (flAS a).D.length = a.D.length := by
  unfold flAS
  split
  · rfl
  · simp
/-- does the disk i know? -/
def knF (a : ArS) (i : Nat) : Bool := decide (rdAX a (i : Int) 0 = 0) && (rdAB a (i : Int) 0 == lbB)
def knX (a : ArS) : Int := if a.off = true then 130 else 0
def knL (a : ArS) : List Bool := if a.off = true then [] else (List.range a.D.length).map (knF a)
/-- the greatest epoch of a checkpoint -/
def mo18 : Int := 2147483547
/-- what is refused ahead of all -/
def apP (g : GeoS) (base count : Int) (r : RcS) : Int := if ¬ okG g then 50 else if ¬ (0 ≤ base ∧ 0 ≤ count ∧ base ≤ mo18 ∧ OkR r) then 1 else if g.t ≤ count then 180 else 0
def apW (a : ArS) (g : GeoS) (base count : Int) (r : RcS) : PuS := wvP a (slG g count) (base + count + 1) (enR r)
def apX (a : ArS) (g : GeoS) (base count : Int) (r : RcS) : Int :=
  if ¬ apP g base count r = 0 then apP g base count r else if (apW a g base count r).cr = true then 130 else if ¬ flAX (apW a g base count r).st = 0 then flAX (apW a g base count r).st else if (apW a g base count r).n = 0 then 150 else 0
def apS (a : ArS) (g : GeoS) (base count : Int) (r : RcS) : ArS := if ¬ apP g base count r = 0 then a else if (apW a g base count r).cr = true then (apW a g base count r).st else flAS (apW a g base count r).st
theorem ap_may {g : GeoS} {base count : Int} {r : RcS} (h : apP g base count r = 0) : okG g ∧ 0 ≤ base ∧ 0 ≤ count ∧ base ≤ mo18 ∧ OkR r ∧ count < g.t := by
  unfold apP at h
  split at h
  · cases h
  · rename_i h1
    split at h
    · cases h
    · rename_i h2
      split at h
      · cases h
      · rename_i h3
        have h2' := Classical.not_not.1 h2
        exact ⟨Classical.not_not.1 h1, h2'.1, h2'.2.1, h2'.2.2.1, h2'.2.2.2, by omega⟩
theorem ap_se {g : GeoS} {base count : Int} {r : RcS} (h : apP g base count r = 0) : OkSe (slG g count) (base + count + 1) (enR r).length := by
  obtain ⟨h1, h2, h3, h4, h5, h6⟩ := ap_may h
  unfold mo18 at h4
  have e : slG g count = 5 + count := if_pos ⟨h1, h3, h6⟩
  have ht : g.t ≤ 64 := by
    obtain ⟨_, _, _, _, _, _, _, _, q, _⟩ := h1
    exact q
  have hk := h5.2.2.1
  have hs := h5.2.2.2.2.2.1
  rw [e, enR_length]
  exact ⟨⟨by omega, by omega⟩, ⟨by omega, by omega⟩, by omega⟩
/-- the length of the first run of yes among the first t -/
def ruN (ok : Nat → Bool) : Nat → Nat
  | 0 => 0
  | t + 1 => if ruN ok t = t ∧ ok t = true then t + 1 else ruN ok t
theorem ru_stop {ok : Nat → Bool} {k t : Nat} (h : ∀ i, i < k → ok i = true) (hk : k < t) (hn : ok k = false) : ruN ok t = k := by
  have h1 : ∀ j, j ≤ k → ruN ok j = j := by
    intro j
    induction j with
    | zero => intro _; rfl
    | succ j ih => intro hj; unfold ruN; rw [if_pos ⟨ih (by omega), h j (by omega)⟩]
  obtain ⟨d, rfl⟩ := Nat.exists_eq_add_of_lt hk
  induction d with
  | zero =>
    show ruN ok (k + 1) = k
    unfold ruN
    rw [if_neg (by rw [hn]; simp)]
    exact h1 k (Nat.le_refl _)
  | succ d ih =>
    have e := ih (by omega)
    show ruN ok (k + d + 1 + 1) = k
    unfold ruN
    rw [if_neg (by rw [e]; omega), e]
theorem ru_full {ok : Nat → Bool} {t : Nat} (h : ∀ i, i < t → ok i = true) : ruN ok t = t := by
  induction t with
  | zero => rfl
  | succ t ih => unfold ruN; rw [if_pos ⟨ih fun i hi => h i (by omega), h t (by omega)⟩]
/-- what is told of the slot i -/
def rlV (a : ArS) (g : GeoS) (K : List Bool) (i : Nat) : VoS := rvV a K (slG g (i : Int))
noncomputable def rlF (a : ArS) (g : GeoS) (K : List Bool) (base : Int) (i : Nat) : Bool := @decide ((rlV a g K i).has = true ∧ (rlV a g K i).ep = base + (i : Int) + 1 ∧ IsR (rlV a g K i).da) (Classical.propDecidable _)
noncomputable def rlN (a : ArS) (g : GeoS) (K : List Bool) (base : Int) : Nat := ruN (rlF a g K base) g.t.toNat
/-- Replay's error, its records -/
noncomputable def rlX (a : ArS) (g : GeoS) (K : List Bool) (base : Int) : Int :=
  if ¬ okG g then 50 else if ¬ (0 ≤ base ∧ base ≤ mo18) then 1 else if a.off = true then 130 else if rlN a g K base < g.t.toNat ∧ (rlV a g K (rlN a g K base)).wi = false then 150 else 0
noncomputable def rlR (a : ArS) (g : GeoS) (K : List Bool) (base : Int) : List RcS := if rlX a g K base = 0 then (List.range (rlN a g K base)).map fun i => raR (rlV a g K i).da else []
/-- Save: what is refused; its two writes -/
noncomputable def svP (g : GeoS) (ar ep : Int) (L : List ObS) : Int := if ¬ okG g then 50 else if @decide (0 ≤ ar ∧ ar ≤ 1 ∧ 0 ≤ ep ∧ ep ≤ mo18 ∧ MayL L) (Classical.propDecidable _) = true then 0 else 1
def svA (a : ArS) (g : GeoS) (ar ep : Int) (L : List ObS) : PuS := wvP a (arG g ar 0) ep ((snB L).take 4096)
def svB (a : ArS) (g : GeoS) (ar ep : Int) (L : List ObS) : PuS := wvP (svA a g ar ep L).st (arG g ar 1) ep ((snB L).drop 4096)
noncomputable def svX (a : ArS) (g : GeoS) (ar ep : Int) (L : List ObS) : Int :=
  if ¬ svP g ar ep L = 0 then svP g ar ep L else if (svA a g ar ep L).cr = true then 130 else if (svB a g ar ep L).cr = true then 130 else
  if ¬ flAX (svB a g ar ep L).st = 0 then flAX (svB a g ar ep L).st else if (svA a g ar ep L).n = 0 ∨ (svB a g ar ep L).n = 0 then 150 else 0
noncomputable def svS (a : ArS) (g : GeoS) (ar ep : Int) (L : List ObS) : ArS :=
  if ¬ svP g ar ep L = 0 then a else if (svA a g ar ep L).cr = true then (svA a g ar ep L).st else if (svB a g ar ep L).cr = true then (svB a g ar ep L).st else flAS (svB a g ar ep L).st
theorem sv_may {g : GeoS} {ar ep : Int} {L : List ObS} (h : svP g ar ep L = 0) : okG g ∧ 0 ≤ ar ∧ ar ≤ 1 ∧ 0 ≤ ep ∧ ep ≤ mo18 ∧ MayL L := by
  unfold svP at h
  split at h
  · cases h
  · rename_i h1
    split at h
    · rename_i h2
      have := @of_decide_eq_true _ (Classical.propDecidable _) h2
      exact ⟨Classical.not_not.1 h1, this.1, this.2.1, this.2.2.1, this.2.2.2.1, this.2.2.2.2⟩
    · cases h
theorem ar_at {g : GeoS} (h : okG g) {ar i : Int} (h1 : 0 ≤ ar) (h2 : ar ≤ 1) (h3 : 0 ≤ i) (h4 : i < 2) : arG g ar i = 1 + ar * 2 + i := if_pos ⟨⟨h, h1, by omega⟩, h3, h4⟩
theorem sv_se {g : GeoS} {ar ep : Int} {L : List ObS} (h : svP g ar ep L = 0) : OkSe (arG g ar 0) ep ((snB L).take 4096).length ∧ OkSe (arG g ar 1) ep ((snB L).drop 4096).length := by
  obtain ⟨h1, h2, h3, h4, h5, h6⟩ := sv_may h
  unfold mo18 at h5
  have e := snB_le h6
  rw [ar_at h1 h2 h3 (by omega) (by omega), ar_at h1 h2 h3 (by omega) (by omega)]
  refine ⟨⟨⟨by omega, by omega⟩, ⟨by omega, by omega⟩, by rw [List.length_take]; omega⟩, ⟨⟨by omega, by omega⟩, ⟨by omega, by omega⟩, by rw [List.length_drop]; omega⟩⟩
/-- one area: what is told of its two sectors -/
structure ArW where
  ar : Int
  ep : Int
  ob : List ObS
  whole : Bool
  wit : Bool
instance : Inhabited ArW := ⟨⟨0, 0, [], false, false⟩⟩
def onV (a : ArS) (g : GeoS) (K : List Bool) (ar : Int) (i : Int) : VoS := rvV a K (arG g ar i)
noncomputable def onL (P : List (List UInt8)) : Option (List ObS) := @dite (Option (List ObS)) (∃ l, IsP P l) (Classical.propDecidable _) (fun h => some h.choose) (fun _ => none)
theorem onL_some {P : List (List UInt8)} {l : List ObS} (h : IsP P l) : onL P = some l := by
  have hh : ∃ l, IsP P l := ⟨l, h⟩
  unfold onL
  rw [dif_pos hh]
  exact congrArg some (isP_one hh.choose_spec h)
theorem onL_none {P : List (List UInt8)} (h : ¬ ∃ l, IsP P l) : onL P = none := by
  unfold onL
  rw [dif_neg h]
noncomputable def onA (a : ArS) (g : GeoS) (K : List Bool) (ar : Int) : ArW :=
  ⟨ar, (onV a g K ar 0).ep, (onL [(onV a g K ar 0).da, (onV a g K ar 1).da]).getD [], (onV a g K ar 0).has && (onV a g K ar 1).has && ((onV a g K ar 1).ep == (onV a g K ar 0).ep) && (onL [(onV a g K ar 0).da, (onV a g K ar 1).da]).isSome, (onV a g K ar 0).wi && (onV a g K ar 1).wi⟩
/-- Latest: which area, its error -/
def ltE (x y : ArW) : Int := if (x.whole = false ∧ y.whole = false) ∨ (x.whole = false ∧ x.wit = false) ∨ (y.whole = false ∧ y.wit = false) then 150 else 0
def ltW (x y : ArW) : ArW := if x.whole = false ∨ (y.whole = true ∧ y.ep > x.ep) then y else x
noncomputable def ltX (a : ArS) (g : GeoS) (K : List Bool) : Int := if ¬ okG g then 50 else if a.off = true then 130 else ltE (onA a g K 0) (onA a g K 1)
noncomputable def ltA (a : ArS) (g : GeoS) (K : List Bool) : ArW := if ltX a g K = 0 then ltW (onA a g K 0) (onA a g K 1) else default
end
end Go.Proofs.YtclieefpnbdbjaaGreat.Gf

namespace Go.Proofs.YtclieefpnbdbjaaGreat.Gf
set_option linter.unusedVariables false
set_option linter.unusedSimpArgs false
theorem putB_same (f : Int → Option (List UInt8)) (x : Int) (b : List UInt8) : putB (putB f x b) x b = putB f x b := by
  funext y
  unfold putB
  split <;> rfl
theorem over_put (F : Int → Option (List UInt8)) (x : Int) (b : List UInt8) : overB (putB noneI x b) F = putB F x b := by
  funext y
  unfold overB putB noneI
  by_cases e : y = x
  · rw [if_pos e, if_pos e]
  · rw [if_neg e, if_neg e]
theorem over_put2 (F : Int → Option (List UInt8)) (x y : Int) (b c : List UInt8) : overB (putB (putB noneI x b) y c) F = putB (putB F x b) y c := by
  funext z
  unfold overB putB noneI
  by_cases e : z = y
  · rw [if_pos e, if_pos e]
  · rw [if_neg e, if_neg e]
    by_cases e2 : z = x
    · rw [if_pos e2, if_pos e2]
    · rw [if_neg e2, if_neg e2]
theorem flS_at (S : Nat) (F W : Int → Option (List UInt8)) : flS (⟨S, F, W, false⟩ : DkS) = ⟨S, overB W F, noneI, false⟩ := by
  unfold flS
  rw [if_neg (by simp)]
section
variable {a : ArS} {n S : Nat} {F W : Int → Option (List UInt8)}
/-- all disks hold F, and W waits on each -/
structure UniW (a : ArS) (n S : Nat) (F W : Int → Option (List UInt8)) : Prop where
  calm : Calm a
  len : a.D.length = n
  di : ∀ i : Nat, i < n → diA a (i : Int) = ⟨S, F, W, false⟩
theorem uni_new (n S : Nat) : UniW (newA n S) n S noneI noneI := ⟨calm_new n S, by simp [newA], fun i hi => by
  rw [di_nat]
  show (List.replicate n (newD S)).getD i default = _
  simp [List.getD, hi, newD]⟩
theorem uw_put (h : UniW a n S F W) {ad e : Int} {d : List UInt8} (hs : OkSe ad e d.length) (h1 : ad < (S : Int)) : (wvP a ad e d).cr = false ∧ (wvP a ad e d).n = n ∧ UniW (wvP a ad e d).st n S F (putB W ad (pkS ad.toNat e.toNat d)) := by
  have okb := okB_pk hs
  have eP : wvP a ad e d = puV a ad (pkS ad.toNat e.toNat d) (fun _ => true) a.D.length := if_pos hs
  obtain ⟨p1, p2, p3, p4⟩ := pu_calm (ad := ad) (b := pkS ad.toNat e.toNat d) h.calm (tO := fun _ => true) a.D.length (Nat.le_refl _)
  have w0 : ∀ i, i < n → wrX (diA a (i : Int)) ad (pkS ad.toNat e.toNat d) = 0 := fun i hi => by
    rw [h.di i hi]
    exact wrX_ok (d := ⟨S, F, W, false⟩) rfl hs.1.1 h1 okb
  rw [eP]
  refine ⟨p1, ?_, p2, by rw [puV_len, h.len], fun i hi => ?_⟩
  · rw [p3, h.len, cnt_full fun i hi => ?_]
    show (true && decide _) = true
    rw [decide_eq_true (w0 i hi)]; rfl
  · rw [p4 i, if_pos ⟨by rw [h.len]; exact hi, rfl⟩, h.di i hi]
    exact wrS_at (d := ⟨S, F, W, false⟩) rfl hs.1.1 h1 okb
theorem uw_flush (h : UniW a n S F W) : flAX a = 0 ∧ UniW (flAS a) n S (overB W F) noneI := by
  have e : flAS a = { a with D := a.D.map flS } := if_neg (by rw [h.calm.1]; decide)
  refine ⟨if_neg (by rw [h.calm.1]; decide), by rw [e]; exact h.calm, by rw [e]; simpa using h.len, fun i hi => ?_⟩
  have hi' : i < a.D.length := by rw [h.len]; exact hi
  have k := h.di i hi
  rw [di_nat] at k
  rw [e, di_nat]
  show (a.D.map flS).getD i default = _
  rw [show (a.D.map flS).getD i default = flS (a.D.getD i default) by simp [List.getD, hi'], k]
  exact flS_at S F W
/-- behind a write of one disk, where no crash is to come -/
theorem wr_di (hc : Calm a) {i ad : Int} {b : List UInt8} : Calm (wrAS a i ad b) ∧ ∀ j : Nat, j < a.D.length → diA (wrAS a i ad b) (j : Int) = if i = (j : Int) then wrS (diA a (j : Int)) ad b else diA a (j : Int) := by
  by_cases ht : thA a i
  · by_cases hx : wrX (diA a i) ad b = 0
    · have e := (wr_set (ad := ad) (b := b) hc ht hx).2
      rw [e]
      refine ⟨hc, fun j hj => ?_⟩
      rw [diA_set ht _ (by omega)]
      by_cases q : i = (j : Int)
      · rw [if_pos q.symm, if_pos q, q]
      · rw [if_neg (fun k => q k.symm), if_neg q]
    · have e : wrAS a i ad b = a := by unfold wrAS; rw [if_neg (by rw [hc.1]; decide), if_pos ht, if_neg hx]
      rw [e]
      refine ⟨hc, fun j hj => ?_⟩
      by_cases q : i = (j : Int)
      · rw [if_pos q, ← q, wrS_same hx]
      · rw [if_neg q]
  · have e : wrAS a i ad b = a := by unfold wrAS; rw [if_neg (by rw [hc.1]; decide), if_neg ht]
    rw [e]
    exact ⟨hc, fun j hj => by rw [if_neg (fun q => ht ⟨by omega, by omega⟩)]⟩
theorem wrS_twice (d : DkS) (ad : Int) (b : List UInt8) : wrS (wrS d ad b) ad b = wrS d ad b := by
  by_cases h : faX d ad = 0 ∧ OkB b
  · have e : wrS d ad b = { d with wait := putB d.wait ad b } := if_pos h
    rw [e]
    have e2 : wrS ({ d with wait := putB d.wait ad b } : DkS) ad b = { d with wait := putB (putB d.wait ad b) ad b } := if_pos h
    rw [e2, putB_same]
  · have e : wrS d ad b = d := if_neg h
    rw [e, e]
/-- the label on those disks that are asked for -/
theorem lb_calm (hc : Calm a) {l : List Int} : ∀ r, r ≤ l.length → (lbV a l r).cr = false ∧ Calm (lbV a l r).st ∧ ∀ j : Nat, j < a.D.length → diA (lbV a l r).st (j : Int) = if (j : Int) ∈ l.take r then wrS (diA a (j : Int)) 0 lbB else diA a (j : Int)
  | 0, _ => ⟨rfl, hc, fun j _ => by rw [if_neg (by simp)]; rfl⟩
  | r + 1, hr => by
    obtain ⟨h1, h2, h3⟩ := lb_calm hc (l := l) r (by omega)
    have hx : ¬ wrAX (lbV a l r).st (l.getD r 0) 0 lbB = 130 := by rw [wrAX_crash, h2.1]; decide
    rw [lb_go h1 hx]
    obtain ⟨k1, k2⟩ := wr_di (i := l.getD r 0) (ad := 0) (b := lbB) h2
    refine ⟨rfl, k1, fun j hj => ?_⟩
    show diA (wrAS _ _ _ _) _ = _
    rw [k2 j (by rw [lbV_len]; exact hj), h3 j hj]
    have hm : (j : Int) ∈ l.take (r + 1) ↔ ((j : Int) ∈ l.take r ∨ l.getD r 0 = (j : Int)) := by
      rw [List.take_succ_eq_append_getElem (by omega), List.mem_append, List.mem_singleton]
      have : l.getD r 0 = l[r] := by simp [List.getD, show r < l.length by omega]
      rw [this]
      exact ⟨Or.imp id Eq.symm, Or.imp id Eq.symm⟩
    by_cases q : l.getD r 0 = (j : Int)
    · rw [if_pos q, if_pos (hm.2 (Or.inr q))]
      split
      · rw [wrS_twice]
      · rfl
    · rw [if_neg q]
      by_cases q2 : (j : Int) ∈ l.take r
      · rw [if_pos q2, if_pos (hm.2 (Or.inl q2))]
      · rw [if_neg q2, if_neg fun k => (hm.1 k).elim q2 q]
theorem lb_end (hc : Calm a) {l : List Int} : lbX a l = 0 ∧ Calm (lbS a l) ∧ (lbS a l).D.length = a.D.length ∧ ∀ j : Nat, j < a.D.length → diA (lbS a l) (j : Int) = flS (if (j : Int) ∈ l then wrS (diA a (j : Int)) 0 lbB else diA a (j : Int)) := by
  obtain ⟨h1, h2, h3⟩ := lb_calm hc (l := l) l.length (Nat.le_refl _)
  rw [List.take_length] at h3
  have e : flAS (lbV a l l.length).st = { (lbV a l l.length).st with D := (lbV a l l.length).st.D.map flS } := if_neg (by rw [h2.1]; decide)
  unfold lbX lbS
  rw [h1, if_neg (by decide), if_neg (by decide)]
  refine ⟨if_neg (by rw [h2.1]; decide), by rw [e]; exact h2, by rw [flAS_len, lbV_len], fun j hj => ?_⟩
  have hj' : j < (lbV a l l.length).st.D.length := by rw [lbV_len]; exact hj
  rw [← h3 j hj, e, di_nat, di_nat]
  show ((lbV a l l.length).st.D.map flS).getD j default = _
  simp [List.getD, hj']
/-- all disks labelled -/
theorem uni_label {n S : Nat} (hS : 1 ≤ S) : UniW (lbS (newA n S) ((List.range n).map fun (i : Nat) => (i : Int))) n S (putB noneI 0 lbB) noneI := by
  obtain ⟨_, h2, h3, h4⟩ := lb_end (calm_new n S) (l := (List.range n).map fun (i : Nat) => (i : Int))
  have hl : (newA n S).D.length = n := by simp [newA]
  refine ⟨h2, by rw [h3, hl], fun i hi => ?_⟩
  have u := (uni_new n S).di i hi
  have m : (i : Int) ∈ (List.range n).map fun (i : Nat) => (i : Int) := List.mem_map.2 ⟨i, List.mem_range.2 hi, rfl⟩
  rw [h4 i (by rw [hl]; exact hi), if_pos m, u, wrS_at (d := ⟨S, noneI, noneI, false⟩) rfl (by decide) (by show (0 : Int) < (S : Int); omega) lb_okb]
  show flS (⟨S, noneI, putB noneI 0 lbB, false⟩ : DkS) = _
  rw [flS_at, over_put]
/-- who knows, behind a label alone -/
theorem kn_iff (hc : Calm a) {i : Nat} (hi : i < a.D.length) : knF a i = decide (rdB (diA a (i : Int)) 0 = lbB) := by
  have ht : thA a (i : Int) := ⟨by omega, by omega⟩
  unfold knF
  rw [rd_at hc.1 ht, rdAX_at hc.1 ht]
  by_cases q : rdB (diA a (i : Int)) 0 = lbB
  · have hf := (rdB_some q (fun k => by have := congrArg List.length k; rw [show lbB = pkS 0 0 [76] from rfl, pk_length] at this; simp at this)).1
    rw [decide_eq_true q, decide_eq_true hf, beq_iff_eq.2 q]
    rfl
  · rw [decide_eq_false q, beq_eq_false_iff_ne.2 q, Bool.and_false]
end
end Go.Proofs.YtclieefpnbdbjaaGreat.Gf
