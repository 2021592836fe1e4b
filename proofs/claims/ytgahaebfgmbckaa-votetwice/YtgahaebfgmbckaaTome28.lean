/- TEXTS JOINED: VoTw. -/
import Derived.Test.YtgahaebfgmbckaaTome23
namespace Go.Proofs.Ytgahaebfgmbckaa.Gf
set_option linter.unusedVariables false
set_option linter.unusedSimpArgs false
section
variable {a : ArS} {ad : Int}
theorem tw_none (ho : a.off = false) (h : ∀ i, i < a.D.length → (sayV a ad i).is = false) : rvX a = 0 ∧ rvV a [] ad = ⟨false, 0, [], 0, false⟩ ∧ mdS a [] ad = a ∧ mdN a [] ad = 0 ∧ mdX a [] ad = 0 := by
  have e := md_none ho h []
  refine ⟨if_neg (by rw [ho]; decide), ?_, ?_, ?_, ?_⟩
  · unfold rvV
    rw [if_neg (by rw [ho]; decide), vo_none (fun i hi => by rw [sayL_length] at hi; rw [sF_say hi]; exact h i hi) [], wi_nil]
  · unfold mdS; rw [e]
  · unfold mdN; rw [e]; rfl
  · unfold mdX; rw [e]; rfl
theorem tw_top (hc : Calm a) {s : Nat} (hs : SizA a s) {e : Int} {d : List UInt8} (h : Top (sayL a ad) (sayL a ad).length e d) :
    ∃ c n l : Nat, n + c = l ∧ (rvX a = 0 ∧ rvV a [] ad = ⟨true, e, d, c, false⟩) ∧ (mdN a [] ad = (n : Int) ∧ mdX a [] ad = 0) ∧ (rvX (mdS a [] ad) = 0 ∧ rvV (mdS a [] ad) [] ad = ⟨true, e, d, l, false⟩) ∧ (mdS (mdS a [] ad) [] ad = mdS a [] ad ∧ mdN (mdS a [] ad) [] ad = 0 ∧ mdX (mdS a [] ad) [] ad = 0) ∧ cnt (fun i => !((mdS a [] ad).D.getD i default).dead) (mdS a [] ad).D.length = l := by
  obtain ⟨m1, m2, m3, m4, m5, m6, m7⟩ := mend_all hc hs h
  refine ⟨_, _, _, m3, ⟨if_neg (by rw [hc.1]; decide), ?_⟩, ⟨?_, ?_⟩, ⟨if_neg (by rw [m2.1]; decide), ?_⟩, ⟨?_, ?_, ?_⟩, ?_⟩
  · unfold rvV; rw [if_neg (by rw [hc.1]; decide), vo_top h [], wi_nil]
  · unfold mdN puN; rw [m1]; rfl
  · unfold mdX puE; rw [m1]; rfl
  · unfold rvV; rw [if_neg (by rw [m2.1]; decide), vo_top m5 [], wi_nil, m6]
  · show (mdP (mdS a [] ad) [] ad).st = _; rw [m7]
  · unfold mdN; rw [m7]; rfl
  · unfold mdX; rw [m7]; rfl
  · rw [mdS_len]
    exact cnt_congr fun i hi => by rw [← di_nat, m4 i hi]
/-- a mend, told ahead of it and behind it, and a second one -/
theorem tw_all (hc : Calm a) {s : Nat} (hs : SizA a s) : ∃ (vh : Bool) (ve : Int) (vda : List UInt8) (c1 c2 n1 cl : Nat) (aE : ArS),
    (rvX a = 0 ∧ rvV a [] ad = ⟨vh, ve, vda, c1, false⟩) ∧ (mdN a [] ad = (n1 : Int) ∧ mdX a [] ad = 0 ∧ mdS a [] ad = aE) ∧ (rvX aE = 0 ∧ rvV aE [] ad = ⟨vh, ve, vda, c2, false⟩) ∧ (mdN aE [] ad = 0 ∧ mdX aE [] ad = 0 ∧ mdS aE [] ad = aE) ∧ aE.D.length = a.D.length ∧ cnt (fun i => !(aE.D.getD i default).dead) a.D.length = cl ∧ ((vh = false ∧ n1 = 0 ∧ c2 = 0) ∨ (vh = true ∧ c2 = cl ∧ n1 + c1 = cl)) := by
  rcases say_or a ad with h | ⟨e, d, h⟩
  · obtain ⟨h1, h2, h3, h4, h5⟩ := tw_none hc.1 h
    exact ⟨false, 0, [], 0, 0, 0, _, a, ⟨h1, h2⟩, ⟨h4, h5, h3⟩, ⟨h1, h2⟩, ⟨h4, h5, h3⟩, rfl, rfl, Or.inl ⟨rfl, rfl, rfl⟩⟩
  · obtain ⟨c, n, l, h0, h1, ⟨h2, h3⟩, h4, ⟨h5, h6, h7⟩, h8⟩ := tw_top hc hs h
    rw [mdS_len] at h8
    exact ⟨true, e, d, c, l, n, l, mdS a [] ad, h1, ⟨h2, h3, rfl⟩, h4, ⟨h6, h7, h5⟩, mdS_len [], h8, Or.inr ⟨rfl, rfl, h0⟩⟩
/-- what VoteGreatest asks of a vote that was told -/
theorem gr_all (ho : a.off = false) : ∃ (vh : Bool) (ve : Int) (vda : List UInt8) (c : Nat), (rvX a = 0 ∧ rvV a [] ad = ⟨vh, ve, vda, c, false⟩) ∧ cnt (fun i => isV (sayV a ad i) ve vda) a.D.length = c ∧ (vh = true ↔ 0 < c) ∧ ∀ i, i < a.D.length → (sayV a ad i).is = true → vh = true ∧ (sayV a ad i).ep ≤ ve := by
  rcases say_or a ad with h | ⟨e, d, h⟩
  · obtain ⟨h1, h2, _⟩ := tw_none ho h
    refine ⟨false, 0, [], 0, ⟨h1, h2⟩, cnt_none fun i hi => ?_, ⟨fun q => (by cases q), fun q => (by omega)⟩, fun i hi q => by rw [h i hi] at q; cases q⟩
    cases q : isV (sayV a ad i) 0 [] with
    | false => rfl
    | true => have := (isV_iff.1 q).1; rw [h i hi] at this; cases this
  · refine ⟨true, e, d, cpV (sayL a ad) e d, ⟨if_neg (by rw [ho]; decide), ?_⟩, cp_say.symm, ⟨fun _ => ?_, fun _ => rfl⟩, fun i hi q => ⟨rfl, ?_⟩⟩
    · unfold rvV; rw [if_neg (by rw [ho]; decide), vo_top h [], wi_nil]
    · obtain ⟨k, hk, k1, k2, k3⟩ := top_say h
      rw [cp_say]
      refine Nat.pos_of_ne_zero fun q => ?_
      have := cnt_at (p := fun i => isV (sayV a ad i) e d) hk (isV_iff.2 ⟨k1, k2, k3⟩)
      omega
    · have := h.all i (by rw [sayL_length]; exact hi) (by rw [sF_say hi]; exact q)
      rw [sF_say hi] at this
      by_cases g : (sayV a ad i).ep ≤ e
      · exact g
      · exact absurd (Or.inl (by omega)) this
end
end Go.Proofs.Ytgahaebfgmbckaa.Gf
