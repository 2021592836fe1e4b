/- TEXTS JOINED: MeMath. -/
import Derived.Test.YtclieefpnbdbjaaGreatTome26
import Derived.Test.YtclieefpnbdbjaaGreatTome16
namespace Go.Proofs.YtclieefpnbdbjaaGreat.Gf
set_option linter.unusedVariables false
set_option linter.unusedSimpArgs false
/-- the label, as a sector -/
def lbB : List UInt8 := pkS 0 0 [76]
theorem lb_ok : OkSe 0 0 ([76] : List UInt8).length := ⟨⟨by decide, by decide⟩, ⟨by decide, by decide⟩, by decide⟩
theorem lb_okb : OkB lbB := by
  have := pk_length (a := 0) (e := 0) (d := [76])
  exact ⟨by rw [show lbB = pkS 0 0 [76] from rfl, pk_length]; decide, by rw [show lbB = pkS 0 0 [76] from rfl, pk_length]; decide⟩
section
variable {a : ArS}
/-- the label written to the first r of a list of disks -/
def lbV (a : ArS) (l : List Int) : Nat → PuS
  | 0 => ⟨false, 0, a⟩
  | r + 1 => if (lbV a l r).cr = true then lbV a l r else if wrAX (lbV a l r).st (l.getD r 0) 0 lbB = 130 then ⟨true, 0, (lbV a l r).st⟩ else ⟨false, 0, wrAS (lbV a l r).st (l.getD r 0) 0 lbB⟩
theorem lbV_ok {l : List Int} (h : a.Ok) : ∀ r, (lbV a l r).st.Ok
  | 0 => h
  | r + 1 => by
    have ih := lbV_ok (l := l) h r
    unfold lbV
    split
    · exact ih
    split
    · exact ih
    · exact wrAS_ok ih _ _ _
theorem lbV_len {l : List Int} : ∀ r, (lbV a l r).st.D.length = a.D.length
  | 0 => rfl
  | r + 1 => by
    have ih := lbV_len (l := l) r
    unfold lbV
    split
    · exact ih
    split
    · exact ih
    · show (wrAS _ _ _ _).D.length = _
      rw [wrAS_len, ih]
theorem lb_cr {l : List Int} {r n : Nat} (hc : (lbV a l r).cr = false) (hx : wrAX (lbV a l r).st (l.getD r 0) 0 lbB = 130) (hr : r < n) : lbV a l n = ⟨true, 0, (lbV a l r).st⟩ := by
  obtain ⟨k, rfl⟩ := Nat.exists_eq_add_of_lt hr
  induction k with
  | zero =>
    show lbV a l (r + 1) = _
    rw [lbV, if_neg (by rw [hc]; decide), if_pos hx]
  | succ k ih =>
    have e := ih (by omega)
    rw [show r + (k + 1) + 1 = (r + k + 1) + 1 by omega, lbV, e]
    rfl
theorem lb_go {l : List Int} {r : Nat} (hc : (lbV a l r).cr = false) (hx : ¬ wrAX (lbV a l r).st (l.getD r 0) 0 lbB = 130) : lbV a l (r + 1) = ⟨false, 0, wrAS (lbV a l r).st (l.getD r 0) 0 lbB⟩ := by
  rw [lbV, if_neg (by rw [hc]; decide), if_neg hx]
def lbX (a : ArS) (l : List Int) : Int := if (lbV a l l.length).cr = true then 130 else flAX (lbV a l l.length).st
def lbS (a : ArS) (l : List Int) : ArS := if (lbV a l l.length).cr = true then (lbV a l l.length).st else flAS (lbV a l l.length).st
theorem flAS_len : (flAS a).D.length = a.D.length := by
  unfold flAS
  split
  · rfl
  · simp
theorem lbS_ok {l : List Int} (h : a.Ok) : (lbS a l).Ok := by
  unfold lbS
  split
  · exact lbV_ok h _
  · exact flAS_ok (lbV_ok h _)
/-- does the disk i know? -/
def knF (a : ArS) (i : Nat) : Bool := decide (rdAX a (i : Int) 0 = 0) && (rdAB a (i : Int) 0 == lbB)
def knX (a : ArS) : Int := if a.off = true then 130 else 0
def knL (a : ArS) : List Bool := if a.off = true then [] else (List.range a.D.length).map (knF a)
/-- the greatest epoch of a checkpoint -/
def mo18 : Int := 2147483547
/-- what is refused ahead of all -/
def apP (g : GeoS) (base count : Int) (r : RcS) : Int := if ¬ okG g then 50 else if ¬ (0 ≤ base ∧ 0 ≤ count ∧ base ≤ mo18 ∧ OkR r) then 1 else if g.t ≤ count then 180 else 0
def apW (a : ArS) (g : GeoS) (base count : Int) (r : RcS) : PuS := wvP a (slG g count) (base + count + 1) (enR r)
def apX (a : ArS) (g : GeoS) (base count : Int) (r : RcS) : Int :=
  if ¬ apP g base count r = 0 then apP g base count r else if (apW a g base count r).cr = true then 130 else if ¬ flAX (apW a g base count r).st = 0 then flAX (apW a g base count r).st else if (apW a g base count r).n = 0 then 150 else 0
def apS (a : ArS) (g : GeoS) (base count : Int) (r : RcS) : ArS := if ¬ apP g base count r = 0 then a else if (apW a g base count r).cr = true then (apW a g base count r).st else flAS (apW a g base count r).st
theorem ap_may {g : GeoS} {base count : Int} {r : RcS} (h : apP g base count r = 0) : okG g ∧ 0 ≤ base ∧ 0 ≤ count ∧ base ≤ mo18 ∧ OkR r ∧ count < g.t := by
  unfold apP at h
  split at h
  · cases h
  · rename_i h1
    split at h
    · cases h
    · rename_i h2
      split at h
      · cases h
      · rename_i h3
        have h2' := Classical.not_not.1 h2
        exact ⟨Classical.not_not.1 h1, h2'.1, h2'.2.1, h2'.2.2.1, h2'.2.2.2, by omega⟩
theorem ap_se {g : GeoS} {base count : Int} {r : RcS} (h : apP g base count r = 0) : OkSe (slG g count) (base + count + 1) (enR r).length := by
  obtain ⟨h1, h2, h3, h4, h5, h6⟩ := ap_may h
  unfold mo18 at h4
  have e : slG g count = 5 + count := if_pos ⟨h1, h3, h6⟩
  have ht : g.t ≤ 64 := by
    obtain ⟨_, _, _, _, _, _, _, _, q, _⟩ := h1
    exact q
  have hk := h5.2.2.1
  have hs := h5.2.2.2.2.2.1
  rw [e, enR_length]
  exact ⟨⟨by omega, by omega⟩, ⟨by omega, by omega⟩, by omega⟩
/-- the length of the first run of yes among the first t -/
def ruN (ok : Nat → Bool) : Nat → Nat
  | 0 => 0
  | t + 1 => if ruN ok t = t ∧ ok t = true then t + 1 else ruN ok t
theorem ru_stop {ok : Nat → Bool} {k t : Nat} (h : ∀ i, i < k → ok i = true) (hk : k < t) (hn : ok k = false) : ruN ok t = k := by
  have h1 : ∀ j, j ≤ k → ruN ok j = j := by
    intro j
    induction j with
    | zero => intro _; rfl
    | succ j ih => intro hj; unfold ruN; rw [if_pos ⟨ih (by omega), h j (by omega)⟩]
  obtain ⟨d, rfl⟩ := Nat.exists_eq_add_of_lt hk
  induction d with
  | zero =>
    show ruN ok (k + 1) = k
    unfold ruN
    rw [if_neg (by rw [hn]; simp)]
    exact h1 k (Nat.le_refl _)
  | succ d ih =>
    have e := ih (by omega)
    show ruN ok (k + d + 1 + 1) = k
    unfold ruN
    rw [if_neg (by rw [e]; omega), e]
theorem ru_full {ok : Nat → Bool} {t : Nat} (h : ∀ i, i < t → ok i = true) : ruN ok t = t := by
  induction t with
  | zero => rfl
  | succ t ih => unfold ruN; rw [if_pos ⟨ih fun i hi => h i (by omega), h t (by omega)⟩]
/-- what is told of the slot i -/
def rlV (a : ArS) (g : GeoS) (K : List Bool) (i : Nat) : VoS := rvV a K (slG g (i : Int))
noncomputable def rlF (a : ArS) (g : GeoS) (K : List Bool) (base : Int) (i : Nat) : Bool := @decide ((rlV a g K i).has = true ∧ (rlV a g K i).ep = base + (i : Int) + 1 ∧ IsR (rlV a g K i).da) (Classical.propDecidable _)
noncomputable def rlN (a : ArS) (g : GeoS) (K : List Bool) (base : Int) : Nat := ruN (rlF a g K base) g.t.toNat
/-- Replay's error, its records -/
noncomputable def rlX (a : ArS) (g : GeoS) (K : List Bool) (base : Int) : Int :=
  if ¬ okG g then 50 else if ¬ (0 ≤ base ∧ base ≤ mo18) then 1 else if a.off = true then 130 else if rlN a g K base < g.t.toNat ∧ (rlV a g K (rlN a g K base)).wi = false then 150 else 0
noncomputable def rlR (a : ArS) (g : GeoS) (K : List Bool) (base : Int) : List RcS := if rlX a g K base = 0 then (List.range (rlN a g K base)).map fun i => raR (rlV a g K i).da else []
/-- Save: what is refused; its two writes -/
noncomputable def svP (g : GeoS) (ar ep : Int) (L : List ObS) : Int := if ¬ okG g then 50 else if @decide (0 ≤ ar ∧ ar ≤ 1 ∧ 0 ≤ ep ∧ ep ≤ mo18 ∧ MayL L) (Classical.propDecidable _) = true then 0 else 1
def svA (a : ArS) (g : GeoS) (ar ep : Int) (L : List ObS) : PuS := wvP a (arG g ar 0) ep ((snB L).take 4096)
def svB (a : ArS) (g : GeoS) (ar ep : Int) (L : List ObS) : PuS := wvP (svA a g ar ep L).st (arG g ar 1) ep ((snB L).drop 4096)
noncomputable def svX (a : ArS) (g : GeoS) (ar ep : Int) (L : List ObS) : Int :=
  if ¬ svP g ar ep L = 0 then svP g ar ep L else if (svA a g ar ep L).cr = true then 130 else if (svB a g ar ep L).cr = true then 130 else
  if ¬ flAX (svB a g ar ep L).st = 0 then flAX (svB a g ar ep L).st else if (svA a g ar ep L).n = 0 ∨ (svB a g ar ep L).n = 0 then 150 else 0
noncomputable def svS (a : ArS) (g : GeoS) (ar ep : Int) (L : List ObS) : ArS :=
  if ¬ svP g ar ep L = 0 then a else if (svA a g ar ep L).cr = true then (svA a g ar ep L).st else if (svB a g ar ep L).cr = true then (svB a g ar ep L).st else flAS (svB a g ar ep L).st
theorem sv_may {g : GeoS} {ar ep : Int} {L : List ObS} (h : svP g ar ep L = 0) : okG g ∧ 0 ≤ ar ∧ ar ≤ 1 ∧ 0 ≤ ep ∧ ep ≤ mo18 ∧ MayL L := by
  unfold svP at h
  split at h
  · cases h
  · rename_i h1
    split at h
    · rename_i h2
      have := @of_decide_eq_true _ (Classical.propDecidable _) h2
      exact ⟨Classical.not_not.1 h1, this.1, this.2.1, this.2.2.1, this.2.2.2.1, this.2.2.2.2⟩
    · cases h
theorem ar_at {g : GeoS} (h : okG g) {ar i : Int} (h1 : 0 ≤ ar) (h2 : ar ≤ 1) (h3 : 0 ≤ i) (h4 : i < 2) : arG g ar i = 1 + ar * 2 + i := if_pos ⟨⟨h, h1, by omega⟩, h3, h4⟩
theorem sv_se {g : GeoS} {ar ep : Int} {L : List ObS} (h : svP g ar ep L = 0) : OkSe (arG g ar 0) ep ((snB L).take 4096).length ∧ OkSe (arG g ar 1) ep ((snB L).drop 4096).length := by
  obtain ⟨h1, h2, h3, h4, h5, h6⟩ := sv_may h
  unfold mo18 at h5
  have e := snB_le h6
  rw [ar_at h1 h2 h3 (by omega) (by omega), ar_at h1 h2 h3 (by omega) (by omega)]
  refine ⟨⟨⟨by omega, by omega⟩, ⟨by omega, by omega⟩, by rw [List.length_take]; omega⟩, ⟨⟨by omega, by omega⟩, ⟨by omega, by omega⟩, by rw [List.length_drop]; omega⟩⟩
/-- one area: what is told of its two sectors -/
structure ArW where
  ar : Int
  ep : Int
  ob : List ObS
  whole : Bool
  wit : Bool
instance : Inhabited ArW := ⟨⟨0, 0, [], false, false⟩⟩
def onV (a : ArS) (g : GeoS) (K : List Bool) (ar : Int) (i : Int) : VoS := rvV a K (arG g ar i)
noncomputable def onL (P : List (List UInt8)) : Option (List ObS) := @dite (Option (List ObS)) (∃ l, IsP P l) (Classical.propDecidable _) (fun h => some h.choose) (fun _ => none)
theorem onL_some {P : List (List UInt8)} {l : List ObS} (h : IsP P l) : onL P = some l := by
  have hh : ∃ l, IsP P l := ⟨l, h⟩
  unfold onL
  rw [dif_pos hh]
  exact congrArg some (isP_one hh.choose_spec h)
theorem onL_none {P : List (List UInt8)} (h : ¬ ∃ l, IsP P l) : onL P = none := by
  unfold onL
  rw [dif_neg h]
noncomputable def onA (a : ArS) (g : GeoS) (K : List Bool) (ar : Int) : ArW :=
  ⟨ar, (onV a g K ar 0).ep, (onL [(onV a g K ar 0).da, (onV a g K ar 1).da]).getD [], (onV a g K ar 0).has && (onV a g K ar 1).has && ((onV a g K ar 1).ep == (onV a g K ar 0).ep) && (onL [(onV a g K ar 0).da, (onV a g K ar 1).da]).isSome, (onV a g K ar 0).wi && (onV a g K ar 1).wi⟩
/-- Latest: which area, its error -/
def ltE (x y : ArW) : Int := if (x.whole = false ∧ y.whole = false) ∨ (x.whole = false ∧ x.wit = false) ∨ (y.whole = false ∧ y.wit = false) then 150 else 0
def ltW (x y : ArW) : ArW := if x.whole = false ∨ (y.whole = true ∧ y.ep > x.ep) then y else x
noncomputable def ltX (a : ArS) (g : GeoS) (K : List Bool) : Int := if ¬ okG g then 50 else if a.off = true then 130 else ltE (onA a g K 0) (onA a g K 1)
noncomputable def ltA (a : ArS) (g : GeoS) (K : List Bool) : ArW := if ltX a g K = 0 then ltW (onA a g K 0) (onA a g K 1) else default
end
end Go.Proofs.YtclieefpnbdbjaaGreat.Gf
