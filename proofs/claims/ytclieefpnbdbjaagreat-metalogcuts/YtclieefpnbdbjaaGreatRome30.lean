/- TEXTS JOINED: VoCw, VoCA, VoCD. -/
import Derived.Test.YtclieefpnbdbjaaGreatRome29
import Derived.Test.YtclieefpnbdbjaaGreatRome20
namespace Go.Proofs.YtclieefpnbdbjaaGreat.Gf
set_option linter.unusedVariables false
set_option linter.unusedSimpArgs false
open Go.RowKit Go.Shelf
set_option maxRecDepth 100000 in
set_option maxHeartbeats 2000000 in
theorem vwrite17_any {w : World} {ab : Nat} {GA : Nat → Prop} {a : ArS} (h : ArAt w ab GA a) {ad ep : Int} (ha : (Lit.int .i64 ad).wf = true) {v : Value} {p : List UInt8} (hp : Rd w v p) (hpl : p.length ≤ 100000) :
    Calls Tryz.prog 124 #[.pointer (some ⟨ab, 0, none⟩), .int .i64 ad, .int .i64 ep, v] w (LeavesA w ab GA (wvS a ad ep p) (.tuple #[.int .i64 (wvN a ad ep p), .int .i64 (wvX a ad ep p)])) := by
  have KP := spack_far (a := ad) (e := ep) hp
  obtain ⟨va, vc, ev⟩ := hp.form
  subst ev
  have lG := h.lt
  by_cases ho : OkSe ad ep p.length
  rotate_left
  · rw [(pa_not ho).1, (pa_not ho).2] at KP
    have e1 : wvP a ad ep p = ⟨false, 0, a⟩ := if_neg ho
    have FIN : Hid (∀ w1, Below w.heap.size w w1 → LeavesA w ab GA (wvS a ad ep p) (.tuple #[.int .i64 (wvN a ad ep p), .int .i64 (wvX a ad ep p)]) (.returned (.tuple #[.int .i64 0, .int .i64 1])) w1) := fun w1 b => by
      have e2 : wvX a ad ep p = 1 := if_neg ho
      unfold wvS wvN
      rw [e2, e1]
      exact ⟨rfl, GA, h.below b, Grew.of_below b⟩
    clear hp h e1 ho lG
    go_enter Tryz.func124, Tryz.ntmps124
    go_wp2_with fail
    refine KP.mono ?_
    rintro _ w1 ⟨s, rfl, R1, F1, B1⟩
    obtain ⟨sa, sc, es⟩ := R1.form
    subst es
    have F := FIN.out w1 B1
    have F' : Hid _ := F
    clear KP R1 F1 B1 FIN F
    go_wp2
    exact bodyPost_ret (v := .tuple #[.int .i64 0, .int .i64 1]) (by simp [results, Tryz.results124, go_sem]) rfl F'.out
  · rw [(pa_ok ho).1, (pa_ok ho).2] at KP
    obtain ⟨b, hb0⟩ : ∃ b, Hid (b = pkS ad.toNat ep.toNat p) := ⟨_, rfl⟩
    rw [← hb0.out] at KP
    obtain ⟨n, hn⟩ : ∃ n, Hid (n = a.D.length) := ⟨_, rfl⟩
    have d2 : n ≤ 32 := by rw [hn.out]; exact h.ok.d2
    have eP : Hid (puW a ad b (List.range n) n = wvP a ad ep p) := by
      show _ = _
      unfold wvP
      rw [if_pos ho, ← hb0.out, ← hn.out, puW_to n, range_all, List.length_range]
    have eX : Hid (wvX a ad ep p = puE (wvP a ad ep p)) := by show _ = _; unfold wvX; rw [if_pos ho]
    have HA : Hid (ArAt w ab GA a) := h
    clear hp h ho hb0
    go_enter Tryz.func124, Tryz.ntmps124
    go_wp2_with fail
    refine KP.mono ?_
    rintro _ w1 ⟨s, rfl, R1, F1, B1⟩
    clear KP
    obtain ⟨sa, sc, es⟩ := R1.form
    have hA1 := HA.out.below B1
    have KA := vall_any hA1
    rw [← hn.out] at KA
    have HP : Hid (∀ W, TurnG GA w1 W → Rd W s b) := fun W t => R1.turnG (F1.apart lG) t
    subst es
    go_wp2_with fail
    refine KA.mono ?_
    rintro _ w2 ⟨g, rfl, rl, sl, B2⟩
    clear KA
    have hA2 := hA1.below B2
    have ng : ¬ GA g := fun e => by have := lG g e; have := B1.size; omega
    have KW := vwrite_any hA2 ha (pv := .slice sa b.length sc) (b := b) (fun W t => HP.out W ((Below.turnG B2 GA).trans t)) (da := some ⟨g, 0, none⟩) (dc := n) (n := n) (l := List.range n) (by simp) (by omega) (fun i hi => by simp [List.getD, hi]; omega) (fun W t => row_rdI (by simp) (rl.of_block (t.block g rl.lt ng)) (fun i hi => by simp [List.getD, hi]) (by omega))
    rw [eP.out] at KW
    have B12 := B1.step16 B2 B1.size
    clear hA1 hA2 ng rl sl R1 F1
    go_wp2_with fail
    refine KW.mono ?_
    rintro _ w3 ⟨rfl, GA', A3, g3⟩
    have F : Hid (LeavesA w ab GA (wvS a ad ep p) (.tuple #[.int .i64 (wvN a ad ep p), .int .i64 (wvX a ad ep p)]) (.returned (.tuple #[.int .i64 (puN (wvP a ad ep p)), .int .i64 (puE (wvP a ad ep p))])) w3) := by
      refine ⟨by rw [eX.out]; rfl, GA', A3, (Grew.of_below B12).trans g3⟩
    clear KW A3 g3 B1 B2 B12 eX eP
    go_wp2
    exact bodyPost_ret (v := .tuple #[.int .i64 (puN (wvP a ad ep p)), .int .i64 (puE (wvP a ad ep p))]) (by simp [results, Tryz.results124, go_sem]) rfl F.out
end Go.Proofs.YtclieefpnbdbjaaGreat.Gf

namespace Go.Proofs.YtclieefpnbdbjaaGreat.Gf
set_option linter.unusedVariables false
set_option linter.unusedSimpArgs false
open Go.RowKit
/-- how two integers lie to each other -/
def cmI (x y : Int) : Int := if x < y then -1 else if y < x then 1 else 0
def cmS (a b : List UInt8) : Int := if Op.bytesLess a b = true then -1 else if Op.bytesLess b a = true then 1 else 0
/-- the first one that is not 0 -/
def orL (zs : List Int) : Int := (zs.find? fun z => z != 0).getD 0
theorem cm_gt {e e0 : Int} {n n0 : Nat} {d d0 : List UInt8} : 0 < orL [cmI e e0, cmI (n : Int) (n0 : Int), cmS d0 d] ↔ Gt17 e n d e0 n0 d0 := by
  unfold orL cmI cmS Gt17
  by_cases h1 : e < e0
  · simp [h1]
    omega
  by_cases h2 : e0 < e
  · simp [h1, h2]
  have he : e = e0 := by omega
  subst he
  by_cases h3 : n < n0
  · have h3' : (n : Int) < (n0 : Int) := by omega
    simp [h3']
    omega
  by_cases h4 : n0 < n
  · have h4' : (n0 : Int) < (n : Int) := by omega
    have h3' : ¬ (n : Int) < (n0 : Int) := by omega
    simp [h3', h4', h4]
  have hn : n = n0 := by omega
  subst hn
  have hnn : ¬ (n : Int) < (n : Int) := by omega
  cases h5 : Op.bytesLess d0 d with
  | true =>
    have : Op.bytesLess d d0 = false := by
      cases h6 : Op.bytesLess d d0 with
      | false => rfl
      | true => have := less_trans h5 h6; rw [less_irr] at this; cases this
    simp [this]
  | false =>
    cases h6 : Op.bytesLess d d0 with
    | true => simp
    | false => simp
theorem nan_i {x : Int} {w : World} : Calls Tryz.prog 189 #[.int .i64 x] w fun e w' => e = .returned (.bool false) ∧ w' = w := by
  go_enter Tryz.func189, Tryz.ntmps189
  go_wp2
  go_ret
  exact ⟨rfl, rfl⟩
theorem nan_s {s : ByteArray} {w : World} : Calls Tryz.prog 190 #[.string s] w fun e w' => e = .returned (.bool false) ∧ w' = w := by
  go_enter Tryz.func190, Tryz.ntmps190
  go_wp2
  go_ret
  exact ⟨rfl, rfl⟩
theorem cmp_i {x y : Int} {w : World} : Calls Tryz.prog 164 #[.int .i64 x, .int .i64 y] w fun e w' => e = .returned (.int .i64 (cmI x y)) ∧ w' = w := by
  go_enter Tryz.func164, Tryz.ntmps164
  go_wp2_with fail
  refine nan_i.mono ?_
  rintro _ w1 ⟨rfl, rfl⟩
  go_wp2_with fail
  refine nan_i.mono ?_
  rintro _ w2 ⟨rfl, rfl⟩
  by_cases h1 : x < y
  · have e : cmI x y = -1 := if_pos h1
    go_wp2
    go_ret
    exact ⟨by rw [e]; rfl, rfl⟩
  · by_cases h2 : x > y
    · have e : cmI x y = 1 := by unfold cmI; rw [if_neg h1, if_pos h2]
      go_wp2
      go_ret
      exact ⟨by rw [e]; rfl, rfl⟩
    · have e : cmI x y = 0 := by unfold cmI; rw [if_neg h1, if_neg h2]
      go_wp2
      go_ret
      exact ⟨by rw [e]; rfl, rfl⟩
theorem cmp_s {a b : List UInt8} {w : World} : Calls Tryz.prog 165 #[.string ⟨a.toArray⟩, .string ⟨b.toArray⟩] w fun e w' => e = .returned (.int .i64 (cmS a b)) ∧ w' = w := by
  go_enter Tryz.func165, Tryz.ntmps165
  go_wp2_with fail
  refine nan_s.mono ?_
  rintro _ w1 ⟨rfl, rfl⟩
  go_wp2_with fail
  refine nan_s.mono ?_
  rintro _ w2 ⟨rfl, rfl⟩
  cases h1 : Op.bytesLess a b with
  | true =>
    have e : cmS a b = -1 := if_pos h1
    go_wp2
    go_ret
    exact ⟨by rw [e]; rfl, rfl⟩
  | false =>
    have h1' : ¬ Op.bytesLess a b = true := by rw [h1]; decide
    cases h2 : (a == b) with
    | false =>
      have hb : Op.bytesLess b a = true := (less_or (beq_eq_false_iff_ne.1 h2)).resolve_left h1'
      have e : cmS a b = 1 := by unfold cmS; rw [if_neg h1', if_pos hb]
      clear hb
      go_wp2
      go_ret
      exact ⟨by rw [e]; rfl, rfl⟩
    | true =>
      obtain rfl := eq_of_beq h2
      have e : cmS a a = 0 := by unfold cmS; rw [if_neg h1', if_neg h1']
      go_wp2
      go_ret
      exact ⟨by rw [e]; rfl, rfl⟩
theorem orL_at {zs : List Int} {k : Nat} (h : ∀ j, j < k → zs.getD j 0 = 0) (hk : k < zs.length) (hz : ¬ zs.getD k 0 = 0) : orL zs = zs.getD k 0 := by
  unfold orL
  induction zs generalizing k with
  | nil => simp at hk
  | cons z zs ih =>
    rcases k with _ | k
    · have hz' : ¬ z = 0 := by simpa using hz
      simp [hz']
    · have h0 : z = 0 := by simpa using h 0 (by omega)
      have e := ih (k := k) (fun j hj => by simpa using h (j + 1) (by omega)) (by simpa using hk) (by simpa using hz)
      simp [h0]
      simpa using e
theorem orL_no {zs : List Int} (h : ∀ j, j < zs.length → zs.getD j 0 = 0) : orL zs = 0 := by
  unfold orL
  induction zs with
  | nil => rfl
  | cons z zs ih =>
    have h0 : z = 0 := by simpa using h 0 (by simp)
    have e := ih fun j hj => by simpa using h (j + 1) (by simp; omega)
    simp [h0]
    simpa using e
theorem or_any {v : Value} {zs : List Int} {w : World} (h : RdI w v zs) (hl : zs.length ≤ 100000) : Calls Tryz.prog 163 #[v] w fun e w' => e = .returned (.int .i64 (orL zs)) ∧ w' = w := by
  obtain ⟨a, c, rfl⟩ := h.form
  go_enter Tryz.func163, Tryz.ntmps163
  go_wp2
  go_loopw [8] (fun i wr => ∃ k : Nat, k ≤ zs.length ∧ i = .int .i64 (k : Int) ∧ wr = w ∧ Hid (∀ j, j < k → zs.getD j 0 = 0)) (fun i _ => zs.length - (intOf i).toNat)
  case atStart => exact ⟨0, Nat.zero_le _, rfl, rfl, fun j hj => by omega⟩
  case round =>
    obtain ⟨k, hk, rfl, rfl, hj⟩ := hrel
    by_cases hlt : k < zs.length
    · have hlt' : (k : Int) < (zs.length : Int) := by omega
      obtain ⟨b, off, rfl, hb, hc⟩ := h.at hlt
      obtain ⟨z, hz⟩ : ∃ z, Hid (z = zs.getD k 0) := ⟨_, rfl⟩
      rw [← hz.out] at hc
      by_cases hz0 : z = 0
      · subst hz0
        have J2 : Hid (∀ j, j < k + 1 → zs.getD j 0 = 0) := fun j hj2 => by
          by_cases e : j = k
          · rw [e]; exact hz.out.symm
          · exact hj.out j (by omega)
        clear hj h
        go_wp2
        go_roundw
        case rel => exact ⟨k + 1, by omega, by go_num, by first | rfl | trivial, J2⟩
        case measure => simp [intOf]; omega
      · have q : (z == 0) = false := beq_eq_false_iff_ne.2 hz0
        have q2 : (z != 0) = true := by rw [bne, q]; rfl
        have E : Hid (orL zs = z) := (orL_at hj.out hlt (by rw [← hz.out]; exact hz0)).trans hz.out.symm
        clear hj h
        go_wp2
        go_ret
        exact ⟨by rw [E.out]; rfl, rfl⟩
    · obtain rfl : k = zs.length := by omega
      have hge : ¬ (zs.length : Int) < (zs.length : Int) := by omega
      have E : Hid (orL zs = 0) := orL_no hj.out
      clear hj h
      go_wp2
      go_ret
      exact ⟨by rw [E.out]; rfl, rfl⟩
/-- a reply, as a value -/
def agRp (r : RpS) : Value := .agg #[.bool r.sp, .bool r.has, .int .i64 r.ep, .string ⟨r.da.toArray⟩]
theorem lay4 {w W : World} {a b c d : Value} {t g : Nat} (hg : g = w.heap.size) (hW : W = w.alloc (.cells #[a, b, c, d] t)) : W.cell? ⟨g, 0, none⟩ = some a ∧ W.cell? ⟨g, 1, none⟩ = some b ∧ W.cell? ⟨g, 2, none⟩ = some c ∧ W.cell? ⟨g, 3, none⟩ = some d ∧ Below w.heap.size w W := by
  subst hg hW
  have z : ∀ j, (w.alloc (.cells #[a, b, c, d] t)).cell? ⟨w.heap.size, j, none⟩ = #[a, b, c, d][j]? := fun j => World.cell?_alloc_new _ _ _ _
  exact ⟨z 0, z 1, z 2, z 3, belR _ _⟩
theorem saying_any {e : Int} {d : List UInt8} {w : World} : Calls Tryz.prog 188 #[.agg #[.int .i64 e, .string ⟨d.toArray⟩]] w fun x w' => x = .returned (.agg #[.bool true, .bool true, .int .i64 e, .string ⟨d.toArray⟩]) ∧ Below w.heap.size w w' := by
  go_enter Tryz.func188, Tryz.ntmps188
  go_wp2
  obtain ⟨W, hW⟩ : ∃ W, W = (w.alloc (.cells #[.int .i64 e, .string ⟨d.toArray⟩] 177)).alloc (.cells #[.bool true, .bool true, .int .i64 e, .string ⟨d.toArray⟩] 215) := ⟨_, rfl⟩
  obtain ⟨z0, z1, z2, z3, b⟩ := lay4 (g := w.heap.size + 1) (by simp) hW
  rw [← hW]
  exact bodyPost_ret (v := .agg #[.bool true, .bool true, .int .i64 e, .string ⟨d.toArray⟩]) (by simp [results, Tryz.results188, go_sem, z0, z1, z2, z3]) rfl ⟨rfl, (belR _ _).step16 b (by simp)⟩
theorem setC4 {w : World} {g : Nat} {a b c d x0 x1 x2 x3 : Value} (m0 : w.cell? ⟨g, 0, none⟩ = some x0) (m1 : w.cell? ⟨g, 1, none⟩ = some x1) (m2 : w.cell? ⟨g, 2, none⟩ = some x2) (m3 : w.cell? ⟨g, 3, none⟩ = some x3) {W : World} (hW : W = (((w.setCell ⟨g, 0, none⟩ a).setCell ⟨g, 1, none⟩ b).setCell ⟨g, 2, none⟩ c).setCell ⟨g, 3, none⟩ d) :
    Only g w W ∧ W.cell? ⟨g, 0, none⟩ = some a ∧ W.cell? ⟨g, 1, none⟩ = some b ∧ W.cell? ⟨g, 2, none⟩ = some c ∧ W.cell? ⟨g, 3, none⟩ = some d := by
  subst hW
  refine ⟨((((Only.refl _ _).setCell _ _).setCell _ _).setCell _ _).setCell _ _, ?_, ?_, ?_, ?_⟩
  · rw [cell_setO (by decide), cell_setO (by decide), cell_setO (by decide), World.cell?_setCell_same _ _ _ m0]
  · rw [cell_setO (by decide), cell_setO (by decide), World.cell?_setCell_same _ _ _ ((cell_setO (by decide)).trans m1)]
  · rw [cell_setO (by decide), World.cell?_setCell_same _ _ _ ((cell_setO (by decide)).trans ((cell_setO (by decide)).trans m2))]
  · exact World.cell?_setCell_same _ _ _ ((cell_setO (by decide)).trans ((cell_setO (by decide)).trans ((cell_setO (by decide)).trans m3)))
set_option maxRecDepth 100000 in
set_option maxHeartbeats 1000000 in
theorem hear_any {ad : Int} {v : Value} {p : List UInt8} {w : World} (hp : Rd w v p) (hl : p.length ≤ 100000) : Calls Tryz.prog 162 #[.int .i64 ad, v] w fun x w' => x = .returned (agRp (heS ad p)) ∧ Below w.heap.size w w' := by
  obtain ⟨a, c, ev⟩ := hp.form
  subst ev
  by_cases h0 : p = []
  · subst h0
    have e : agRp (heS ad []) = .agg #[.bool true, .bool false, .int .i64 0, .string ⟨#[]⟩] := rfl
    rw [e]
    clear hp e hl
    go_enter Tryz.func162, Tryz.ntmps162
    go_wp2
    obtain ⟨W, hW⟩ : ∃ W, W = w.alloc (.cells #[.bool true, .bool false, .int .i64 0, .string ⟨#[]⟩] 215) := ⟨_, rfl⟩
    obtain ⟨z0, z1, z2, z3, b⟩ := lay4 (g := w.heap.size) rfl hW
    rw [← hW]
    exact bodyPost_ret (v := .agg #[.bool true, .bool false, .int .i64 0, .string ⟨#[]⟩]) (by simp [results, Tryz.results162, go_sem, z0, z1, z2, z3]) rfl ⟨rfl, b⟩
  · have h0' : ¬ (p.length : Int) = 0 := fun k => h0 (List.length_eq_zero_iff.1 (by omega))
    have h0'' : ((p.length : Int) == 0) = false := beq_eq_false_iff_ne.2 h0'
    obtain ⟨X, hX⟩ : ∃ X, Hid (X = upX ad p) := ⟨_, rfl⟩
    obtain ⟨N, hN⟩ : ∃ N, Hid (N = upN ad p) := ⟨_, rfl⟩
    obtain ⟨D, hD⟩ : ∃ D, Hid (D = upD ad p) := ⟨_, rfl⟩
    have E : Hid (agRp (heS ad p) = if X = 0 then agRp ⟨true, true, ((N : Nat) : Int), D⟩ else agRp rpN) := by
      show _ = _
      unfold heS
      rw [if_neg h0, hX.out, hN.out, hD.out]
      split <;> rfl
    have KU := fun W (b : Below w.heap.size w W) => sunpack_far (a := ad) (hp.below b) hl
    rw [← hX.out, ← hN.out, ← hD.out] at KU
    clear hX hN hD hp
    go_enter Tryz.func162, Tryz.ntmps162
    go_wp2_with fail
    obtain ⟨W, hW⟩ : ∃ W, W = w.alloc (.cells #[.bool false, .bool false, .int .i64 0, .string ⟨#[]⟩] 215) := ⟨_, rfl⟩
    obtain ⟨z0, z1, z2, z3, b⟩ := lay4 (g := w.heap.size) rfl hW
    have sz : w.heap.size < W.heap.size := by rw [hW]; simp
    have fz : ∀ j, W.frozen? ⟨w.heap.size, j, none⟩ = false := fun j => by rw [hW]; simp [go_sem]
    rw [← hW]
    clear hW
    refine (KU _ b).mono ?_
    rintro _ w1 ⟨u, rfl, R1, F1, B1⟩
    have CS := conv_str16 R1
    obtain ⟨ua, uc, eu⟩ := R1.form
    subst eu
    replace z0 := (B1.cell (p := ⟨w.heap.size, 0, none⟩) sz).trans z0
    replace z1 := (B1.cell (p := ⟨w.heap.size, 1, none⟩) sz).trans z1
    replace z2 := (B1.cell (p := ⟨w.heap.size, 2, none⟩) sz).trans z2
    replace z3 := (B1.cell (p := ⟨w.heap.size, 3, none⟩) sz).trans z3
    have fz1 : ∀ j, w1.frozen? ⟨w.heap.size, j, none⟩ = false := fun j => (B1.frozen (p := ⟨w.heap.size, j, none⟩) sz).trans (fz j)
    have f0 := fz1 0
    have f1 := fz1 1
    have f2 := fz1 2
    have f3 := fz1 3
    have b1 : Below w.heap.size w w1 := b.step16 B1 b.size
    have sz1 : w.heap.size < w1.heap.size := Nat.lt_of_lt_of_le sz B1.size
    clear KU R1 F1 B1 fz fz1 b sz
    by_cases q : X = 0
    · rw [if_pos q] at E
      subst q
      go_wp2_with fail
      refine saying_any.mono ?_
      rintro _ w2 ⟨rfl, B2⟩
      replace z0 := (B2.cell (p := ⟨w.heap.size, 0, none⟩) sz1).trans z0
      replace z1 := (B2.cell (p := ⟨w.heap.size, 1, none⟩) sz1).trans z1
      replace z2 := (B2.cell (p := ⟨w.heap.size, 2, none⟩) sz1).trans z2
      replace z3 := (B2.cell (p := ⟨w.heap.size, 3, none⟩) sz1).trans z3
      replace f0 := (B2.frozen (p := ⟨w.heap.size, 0, none⟩) sz1).trans f0
      replace f1 := (B2.frozen (p := ⟨w.heap.size, 1, none⟩) sz1).trans f1
      replace f2 := (B2.frozen (p := ⟨w.heap.size, 2, none⟩) sz1).trans f2
      replace f3 := (B2.frozen (p := ⟨w.heap.size, 3, none⟩) sz1).trans f3
      have b2 : Below w.heap.size w w2 := b1.step16 B2 b1.size
      clear B2 CS b1
      obtain ⟨W, hW⟩ : ∃ W, W = (((w2.setCell ⟨w.heap.size, 0, none⟩ (.bool true)).setCell ⟨w.heap.size, 1, none⟩ (.bool true)).setCell ⟨w.heap.size, 2, none⟩ (.int .i64 (N : Int))).setCell ⟨w.heap.size, 3, none⟩ (.string ⟨D.toArray⟩) := ⟨_, rfl⟩
      obtain ⟨O, n0, n1, n2, n3⟩ := setC4 z0 z1 z2 z3 hW
      go_wp2
      rw [← hW]
      exact bodyPost_ret (v := .agg #[.bool true, .bool true, .int .i64 (N : Int), .string ⟨D.toArray⟩]) (by simp [results, Tryz.results162, go_sem, n0, n1, n2, n3]) rfl ⟨by rw [E.out]; rfl, b2.trans (O.below (Nat.le_refl _))⟩
    · rw [if_neg q] at E
      have q' : (X == 0) = false := beq_eq_false_iff_ne.2 q
      obtain ⟨W, hW⟩ : ∃ W, W = (((w1.setCell ⟨w.heap.size, 0, none⟩ (.bool false)).setCell ⟨w.heap.size, 1, none⟩ (.bool false)).setCell ⟨w.heap.size, 2, none⟩ (.int .i64 0)).setCell ⟨w.heap.size, 3, none⟩ (.string ⟨#[]⟩) := ⟨_, rfl⟩
      obtain ⟨O, n0, n1, n2, n3⟩ := setC4 z0 z1 z2 z3 hW
      go_wp2
      rw [← hW]
      exact bodyPost_ret (v := .agg #[.bool false, .bool false, .int .i64 0, .string ⟨#[]⟩]) (by simp [results, Tryz.results162, go_sem, n0, n1, n2, n3]) rfl ⟨by rw [E.out]; rfl, b1.trans (O.below (Nat.le_refl _))⟩
end Go.Proofs.YtclieefpnbdbjaaGreat.Gf

namespace Go.Proofs.YtclieefpnbdbjaaGreat.Gf
set_option linter.unusedVariables false
set_option linter.unusedSimpArgs false
open Go.RowKit Go.Shelf
/-- a reply's four cells -/
def rpC (r : RpS) (j : Nat) : Value := if j = 0 then .bool r.sp else if j = 1 then .bool r.has else if j = 2 then .int .i64 r.ep else .string ⟨r.da.toArray⟩
/-- a row of replies -/
def RpRow (w : World) (g n : Nat) (f : Nat → RpS) : Prop := w.rowIs g 215 (n * 4) (fun j => rpC (f (j / 4)) (j % 4))
section
variable {w w' : World} {g n : Nat} {f f' : Nat → RpS}
theorem RpRow.lt (h : RpRow w g n f) : g < w.heap.size := World.rowIs.lt h
theorem RpRow.congr (h : RpRow w g n f) (e : ∀ i, i < n → f i = f' i) : RpRow w g n f' := World.rowIs.congr h fun j hj => by rw [e (j / 4) (by omega)]
theorem RpRow.block (h : RpRow w g n f) (e : w'.heap[g]? = w.heap[g]?) : RpRow w' g n f := World.rowIs.of_block h e
theorem RpRow.below (h : RpRow w g n f) (b : Below w.heap.size w w') : RpRow w' g n f := h.block (b.block g h.lt)
theorem RpRow.get (h : RpRow w g n f) {i j : Nat} (hi : i < n) (hj : j < 4) : w.cell? ⟨g, i * 4 + j, none⟩ = some (rpC (f i) j) := by
  have := World.rowIs.cell h (i := i * 4 + j) (by omega)
  rw [this, show (i * 4 + j) / 4 = i by omega, show (i * 4 + j) % 4 = j by omega]
theorem RpRow.cells (h : RpRow w g n f) {i : Nat} (hi : i < n) : w.cell? ⟨g, i * 4, none⟩ = some (.bool (f i).sp) ∧ w.cell? ⟨g, i * 4 + 1, none⟩ = some (.bool (f i).has) ∧ w.cell? ⟨g, i * 4 + 2, none⟩ = some (.int .i64 (f i).ep) ∧ w.cell? ⟨g, i * 4 + 3, none⟩ = some (.string ⟨(f i).da.toArray⟩) :=
  ⟨h.get hi (j := 0) (by decide), h.get hi (j := 1) (by decide), h.get hi (j := 2) (by decide), h.get hi (j := 3) (by decide)⟩
theorem RpRow.frozen (h : RpRow w g n f) (j : Nat) : w.frozen? ⟨g, j, none⟩ = false := World.rowIs.frozen h j
theorem RpRow.put (h : RpRow w g n f) (i : Nat) (r : RpS) : RpRow ((((w.setCell ⟨g, i * 4, none⟩ (.bool r.sp)).setCell ⟨g, i * 4 + 1, none⟩ (.bool r.has)).setCell ⟨g, i * 4 + 2, none⟩ (.int .i64 r.ep)).setCell ⟨g, i * 4 + 3, none⟩ (.string ⟨r.da.toArray⟩)) g n (fun k => if k = i then r else f k) := by
  refine World.rowIs.congr ((((World.rowIs.set h _ _).set _ _).set _ _).set _ _) fun j hj => ?_
  show _ = rpC (if j / 4 = i then r else f (j / 4)) (j % 4)
  by_cases e3 : j = i * 4 + 3
  · subst e3
    rw [if_pos rfl, if_pos (by omega), show (i * 4 + 3) % 4 = 3 by omega]; rfl
  rw [if_neg e3]
  by_cases e2 : j = i * 4 + 2
  · subst e2
    rw [if_pos rfl, if_pos (by omega), show (i * 4 + 2) % 4 = 2 by omega]; rfl
  rw [if_neg e2]
  by_cases e1 : j = i * 4 + 1
  · subst e1
    rw [if_pos rfl, if_pos (by omega), show (i * 4 + 1) % 4 = 1 by omega]; rfl
  rw [if_neg e1]
  by_cases e0 : j = i * 4
  · subst e0
    rw [if_pos rfl, if_pos (by omega), show (i * 4) % 4 = 0 by omega]; rfl
  rw [if_neg e0, if_neg (by omega)]
theorem info_reply : (Tryz.prog.info? 215).map (fun i => (i.zero, i.size, i.bytes)) = some (some (.agg #[.bool false, .bool false, .int .i64 0, .string ⟨#[]⟩]), 4, 32) := by kernel_rfl
theorem run_make_replies (n : Nat) (hn : n ≤ 1000) (w : World) : (Instr.makeSlice 173 (.int .i64 (n : Int)) (.int .i64 (n : Int))).run Tryz.prog w = .ok (.slice (some ⟨w.heap.size, 0, none⟩) n n) (w.alloc (.cells (madeCells #[.bool false, .bool false, .int .i64 0, .string ⟨#[]⟩] (n * 4)) 215)) := by
  obtain ⟨i, hi, hzz⟩ := Option.map_eq_some_iff.1 info_reply
  simp only [Prod.mk.injEq] at hzz
  obtain ⟨hz, hs, hb⟩ := hzz
  have hr := run_make (P := Tryz.prog) w 173 215 i _ Tryz.underlying173 hi hz .i64 .i64 n n (by omega) (Int.le_refl _) (by rw [hb]; omega) (by omega)
  simp only [Int.toNat_natCast, hs] at hr
  exact hr
theorem RpRow.made (w : World) (n : Nat) : RpRow (w.alloc (.cells (madeCells #[.bool false, .bool false, .int .i64 0, .string ⟨#[]⟩] (n * 4)) 215)) w.heap.size n (fun _ => rpN) := by
  refine ⟨_, Deep.blk_alloc_new _ _, size_madeCells _ _, fun i hi => ?_⟩
  have h4 : i % 4 < 4 := Nat.mod_lt _ (by decide)
  have : i % 4 = 0 ∨ i % 4 = 1 ∨ i % 4 = 2 ∨ i % 4 = 3 := by omega
  rcases this with e | e | e | e <;> simp [madeCells, hi, e, rpC, rpN]
end
set_option maxRecDepth 100000 in
set_option maxHeartbeats 2000000 in
theorem vask1_any {w : World} {ab : Nat} {GA : Nat → Prop} {a : ArS} (h : ArAt w ab GA a) {i n g : Nat} (hi : i < n) (hn : n ≤ 1000) {ad : Int} (ha : (Lit.int .i64 ad).wf = true) {f : Nat → RpS} (hR : RpRow w g n f) {b0 b1 b2 : Nat} (n0 : b0 ≠ g) (n1 : b1 ≠ g) (n2 : b2 ≠ g)
    (c0 : w.cell? ⟨b0, 0, none⟩ = some (.pointer (some ⟨ab, 0, none⟩))) (c1 : w.cell? ⟨b1, 0, none⟩ = some (.int .i64 ad)) (c2 : w.cell? ⟨b2, 0, none⟩ = some (.slice (some ⟨g, 0, none⟩) n n)) :
    Calls Tryz.prog 161 #[.int .i64 (i : Int), .pointer (some ⟨b0, 0, none⟩), .pointer (some ⟨b1, 0, none⟩), .pointer (some ⟨b2, 0, none⟩)] w fun e w' => e = .returned (.int .i64 (rdAX a (i : Int) ad)) ∧ TurnG (fun k => k = g) w w' ∧ RpRow w' g n (fun k => if k = i then (if rdAX a (i : Int) ad = 0 then heS ad (rdAB a (i : Int) ad) else f i) else f k) := by
  have KR := aread_any h (i := (i : Int)) (ad := ad) (WalkArith.wf_i64 (by omega)) ha
  have lp : (rdAB a (i : Int) ad).length ≤ 100000 := Nat.le_trans (rdB_le h.ok _ _) (by decide)
  obtain ⟨x, hx⟩ : ∃ x, Hid (x = rdAX a (i : Int) ad) := ⟨_, rfl⟩
  obtain ⟨p, hp⟩ : ∃ p, Hid (p = rdAB a (i : Int) ad) := ⟨_, rfl⟩
  rw [← hx.out, ← hp.out] at KR ⊢
  rw [← hp.out] at lp
  have l1 : b1 < w.heap.size := World.block_lt_of_cell? w _ c1
  have l2 : b2 < w.heap.size := World.block_lt_of_cell? w _ c2
  have HN : Hid (b1 ≠ g ∧ b2 ≠ g) := ⟨n1, n2⟩
  clear hx hp h n0 n1 n2
  go_enter Tryz.func161, Tryz.ntmps161
  go_wp2_with fail
  refine KR.mono ?_
  rintro _ w1 ⟨v, rfl, O1, B1⟩
  have R1 := Rd.owned O1
  obtain ⟨va, vc, ev⟩ := R1.form
  subst ev
  replace c1 := (B1.cell (p := ⟨b1, 0, none⟩) l1).trans c1
  replace c2 := (B1.cell (p := ⟨b2, 0, none⟩) l2).trans c2
  have hR1 := hR.below B1
  clear KR O1 c0
  by_cases q : x = 0
  · subst q
    have HH := fun W (b : Below w1.heap.size w1 W) => hear_any (ad := ad) (R1.below b) lp
    obtain ⟨r, hr⟩ : ∃ r, Hid (r = heS ad p) := ⟨_, rfl⟩
    rw [← hr.out] at HH
    obtain ⟨rs, rh, re, rd⟩ := r
    have HR : Hid (RpRow w1 g n f) := hR1
    have HB : Hid (Below w.heap.size w w1) := B1
    have hi' : (i : Int) < (n : Int) := by omega
    have l1' : b1 < w1.heap.size := Nat.lt_of_lt_of_le l1 B1.size
    have l2' : b2 < w1.heap.size := Nat.lt_of_lt_of_le l2 B1.size
    have s0 : w1.cell? ⟨b1, 0, none⟩ = some (.int .i64 ad) ∧ w1.cell? ⟨b2, 0, none⟩ = some (.slice (some ⟨g, 0, none⟩) n n) := ⟨c1, c2⟩
    have SE : Hid (∀ W, Below w1.heap.size w1 W → (W.cell? ⟨b1, 0, none⟩ = some (.int .i64 ad) ∧ W.cell? ⟨b2, 0, none⟩ = some (.slice (some ⟨g, 0, none⟩) n n))) := fun W b => ⟨(b.cell (p := ⟨b1, 0, none⟩) l1').trans c1, (b.cell (p := ⟨b2, 0, none⟩) l2').trans c2⟩
    have BD : Below w1.heap.size w1 w1.drew := (Below.refl _ _).drew
    have sD := SE.out _ BD
    have EV : Hid (agRp ⟨rs, rh, re, rd⟩ = .agg #[.bool rs, .bool rh, .int .i64 re, .string ⟨rd.toArray⟩]) := rfl
    rw [EV.out] at HH
    have HK : Hid (∀ W W', Only g W W' → (W.cell? ⟨b1, 0, none⟩ = some (.int .i64 ad) ∧ W.cell? ⟨b2, 0, none⟩ = some (.slice (some ⟨g, 0, none⟩) n n)) → (W'.cell? ⟨b1, 0, none⟩ = some (.int .i64 ad) ∧ W'.cell? ⟨b2, 0, none⟩ = some (.slice (some ⟨g, 0, none⟩) n n))) := fun W W' o k => ⟨(o.cell (p := ⟨b1, 0, none⟩) HN.out.1).trans k.1, (o.cell (p := ⟨b2, 0, none⟩) HN.out.2).trans k.2⟩
    clear hR hR1 B1 R1 EV
    go_wp2_with fail
    go_region_held3 (fun wx => wx.cell? ⟨b1, 0, none⟩ = some (.int .i64 ad) ∧ wx.cell? ⟨b2, 0, none⟩ = some (.slice (some ⟨g, 0, none⟩) n n)) (first | exact s0 | exact sD | exact s1 | exact HK.out _ _ (((((Only.refl g _).setCell _ _).setCell _ _).setCell _ _).setCell _ _) s1) (first
      | (go_at_call 162; go_loud (refine (HH _ BD).mono ?_); rintro _ w2 ⟨rfl, B2⟩; have B3 := BD.step16 B2 BD.size; have s1 := SE.out _ B3; have R2 := HR.out.below B3; have f0 := R2.frozen (i * 4); have f1 := R2.frozen (i * 4 + 1); have f2 := R2.frozen (i * 4 + 2); have f3 := R2.frozen (i * 4 + 3); obtain ⟨m0, m1, m2, m3⟩ := R2.cells hi))
    have FIN : Hid (TurnG (fun k => k = g) w ((((w2.setCell ⟨g, i * 4, none⟩ (.bool rs)).setCell ⟨g, i * 4 + 1, none⟩ (.bool rh)).setCell ⟨g, i * 4 + 2, none⟩ (.int .i64 re)).setCell ⟨g, i * 4 + 3, none⟩ (.string ⟨rd.toArray⟩)) ∧ RpRow ((((w2.setCell ⟨g, i * 4, none⟩ (.bool rs)).setCell ⟨g, i * 4 + 1, none⟩ (.bool rh)).setCell ⟨g, i * 4 + 2, none⟩ (.int .i64 re)).setCell ⟨g, i * 4 + 3, none⟩ (.string ⟨rd.toArray⟩)) g n (fun k => if k = i then heS ad p else f k)) := by
      refine ⟨(Below.turnG (HB.out.step16 B3 HB.out.size) _).trans (Only.turnG (((((Only.refl g _).setCell _ _).setCell _ _).setCell _ _).setCell _ _) rfl), ?_⟩
      rw [← hr.out]
      exact R2.put i ⟨rs, rh, re, rd⟩
    clear B2 B3 R2 f0 f1 f2 f3 m0 m1 m2 m3 s0 s1 sD BD HH
    go_wp2
    go_ret
    exact ⟨rfl, by simpa using FIN.out⟩
  · have q' : (x == 0) = false := beq_eq_false_iff_ne.2 q
    have FIN : Hid (TurnG (fun k => k = g) w w1 ∧ RpRow w1 g n (fun k => if k = i then (if x = 0 then heS ad p else f i) else f k)) := ⟨Below.turnG B1 _, hR1.congr fun k hk => by
      rw [if_neg q]
      by_cases e : k = i
      · rw [if_pos e, e]
      · rw [if_neg e]⟩
    clear hR hR1 B1 R1
    go_wp2
    go_ret
    exact ⟨rfl, by simpa [q] using FIN.out⟩
end Go.Proofs.YtclieefpnbdbjaaGreat.Gf
