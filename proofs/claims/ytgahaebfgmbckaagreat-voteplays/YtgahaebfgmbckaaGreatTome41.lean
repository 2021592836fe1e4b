/- TEXTS JOINED: VoCl, VoSml, VoDid. -/
import Derived.Deep.Grids
import Derived.Test.YtgahaebfgmbckaaGreatTome36
import Derived.Test.YtgahaebfgmbckaaGreatTome40
namespace Go.Proofs.YtgahaebfgmbckaaGreat.Gf
set_option linter.unusedVariables false
set_option linter.unusedSimpArgs false
open Go.RowKit
open Go.ChangeShapes
structure CallW where
  kind : Int
  n : Int
  m : Int
  vd : Value
  d : List UInt8
  vk : Value
  kn : List Bool
  c : CallA
instance : Inhabited CallW := ⟨⟨0, 0, 0, .slice none 0 0, [], .slice none 0 0, [], default⟩⟩
structure CallAtW (w : World) (b off : Nat) (x : CallW) : Prop where
  s0 : w.cell? ⟨b, off, none⟩ = some (.int .i64 x.kind)
  s1 : w.cell? ⟨b, off + 1, none⟩ = some (.int .i64 x.n)
  s2 : w.cell? ⟨b, off + 2, none⟩ = some (.int .i64 x.m)
  s3 : w.cell? ⟨b, off + 3, none⟩ = some x.vd
  s4 : w.cell? ⟨b, off + 4, none⟩ = some x.vk
  s5 : w.cell? ⟨b, off + 5, none⟩ = some (.int .i64 x.c.kind)
  s6 : w.cell? ⟨b, off + 6, none⟩ = some (.int .i64 x.c.d)
  s7 : w.cell? ⟨b, off + 7, none⟩ = some (.int .i64 x.c.n)
  s8 : w.cell? ⟨b, off + 8, none⟩ = some (.int .i64 x.c.m)
  s9 : w.cell? ⟨b, off + 9, none⟩ = some (.int .u8 ((x.c.by8.toNat : Nat) : Int))
  s10 : w.cell? ⟨b, off + 10, none⟩ = some x.c.vb
  s11 : w.cell? ⟨b, off + 11, none⟩ = some x.c.vk
  wk : (Lit.int .i64 x.kind).wf = true
  wn : (Lit.int .i64 x.n).wf = true
  wm : (Lit.int .i64 x.m).wf = true
  rd : Rd w x.vd x.d
  rk : RdB w x.vk x.kn
  cv : CallV w x.c
theorem CallAtW.below {w w' : World} {b off : Nat} {x : CallW} (h : CallAtW w b off x) (hb : b < w.heap.size) (hw : Below w.heap.size w w') : CallAtW w' b off x := by
  have k : ∀ j, w'.cell? ⟨b, j, none⟩ = w.cell? ⟨b, j, none⟩ := fun j => hw.cell (p := ⟨b, j, none⟩) hb
  exact ⟨(k _).trans h.s0, (k _).trans h.s1, (k _).trans h.s2, (k _).trans h.s3, (k _).trans h.s4, (k _).trans h.s5, (k _).trans h.s6, (k _).trans h.s7, (k _).trans h.s8, (k _).trans h.s9, (k _).trans h.s10, (k _).trans h.s11, h.wk, h.wn, h.wm, h.rd.below hw, h.rk.below hw, h.cv.below hw⟩
def RdV17 (w : World) (v : Value) (L : List CallW) : Prop :=
  (∃ ao cap, L = [] ∧ v = .slice ao 0 cap) ∨ (∃ b off cap, L ≠ [] ∧ v = .slice (some ⟨b, off, none⟩) L.length cap ∧ L.length ≤ maxLen ∧ b < w.heap.size ∧ ∀ i, i < L.length → CallAtW w b (off + i * 12) (L.getD i default))
theorem RdV17.below {w w' : World} {v : Value} {L : List CallW} (h : RdV17 w v L) (hb : Below w.heap.size w w') : RdV17 w' v L := by
  rcases h with h | ⟨b, off, cap, h1, h2, h3, h5, h6⟩
  · exact Or.inl h
  · exact Or.inr ⟨b, off, cap, h1, h2, h3, Nat.lt_of_lt_of_le h5 hb.size, fun i hi => (h6 i hi).below h5 hb⟩
theorem RdV17.form {w : World} {v : Value} {L : List CallW} (h : RdV17 w v L) : ∃ a c, v = .slice a L.length c := by
  rcases h with ⟨a, c, rfl, rfl⟩ | ⟨b, off, c, _, rfl, _⟩
  · exact ⟨a, c, rfl⟩
  · exact ⟨_, c, rfl⟩
theorem RdV17.lenEq {w : World} {a : Option Addr} {len cap : Nat} {L : List CallW} (h : RdV17 w (.slice a len cap) L) : len = L.length := by
  obtain ⟨_, _, e⟩ := h.form
  simp at e
  exact e.2.1
theorem RdV17.at {w : World} {a : Option Addr} {c : Nat} {L : List CallW} (h : RdV17 w (.slice a L.length c) L) {k : Nat} (hk : k < L.length) : ∃ b off, a = some ⟨b, off, none⟩ ∧ b < w.heap.size ∧ CallAtW w b (off + k * 12) (L.getD k default) := by
  rcases h with ⟨_, _, h1, _⟩ | ⟨b, off, c, h1, h2, h3, h4, h5⟩
  · rw [h1] at hk; simp at hk
  · simp at h2
    exact ⟨b, off, h2.1, h4, h5 k hk⟩
theorem twelve {cs : List Value} (h : cs.length = 12) : ∃ v0 v1 v2 v3 v4 u0 u1 u2 u3 u4 u5 u6, cs = [v0, v1, v2, v3, v4, u0, u1, u2, u3, u4, u5, u6] := by
  match cs, h with
  | [a, b, c, d, e, f, g, i, j, k, l, m], _ => exact ⟨a, b, c, d, e, f, g, i, j, k, l, m, rfl⟩
section
variable {H : Type} {enc : TypeId × Value → H} {P : Program} {w : World} {base : Nat} {held : Bool}
/-- an argument that is a slice of votes -/
theorem open_vcalls {t e sb so ss si : TypeId} {e0 e1 e2 e3 e4 e5 f0 f1 f2 f3 f4 f5 f6 : Field} {fuel : Nat} {cs : List Value} {x : DataW H × List MemPlace} (ht : P.underlying t = some (.slice e)) (he : P.underlying e = some (.struct #[e0, e1, e2, e3, e4, e5])) (ce : P.cellsOf e = 12)
    (p0 : e0.offset = 0) (p1 : e1.offset = 1) (p2 : e2.offset = 2) (p3 : e3.offset = 3) (p4 : e4.offset = 4) (p5 : e5.offset = 5)
    (u0 : P.underlying e0.type = some (.int .i64)) (u1 : P.underlying e1.type = some (.int .i64)) (u2 : P.underlying e2.type = some (.int .i64)) (u3 : P.underlying e3.type = some (.slice sb)) (u4 : P.underlying e4.type = some (.slice so)) (tO : P.underlying so = some .bool) (co1 : P.cellsOf so = 1)
    (m0 : P.cellsOf e0.type = 1) (m1 : P.cellsOf e1.type = 1) (m2 : P.cellsOf e2.type = 1) (m3 : P.cellsOf e3.type = 1) (m4 : P.cellsOf e4.type = 1) (m5 : P.cellsOf e5.type = 7)
    (h4 : P.underlying e5.type = some (.struct #[f0, f1, f2, f3, f4, f5, f6]))
    (o0 : f0.offset = 0) (o1 : f1.offset = 1) (o2 : f2.offset = 2) (o3 : f3.offset = 3) (o4 : f4.offset = 4) (o5 : f5.offset = 5) (o6 : f6.offset = 6)
    (t0 : P.underlying f0.type = some (.int .i64)) (t1 : P.underlying f1.type = some (.int .i64)) (t2 : P.underlying f2.type = some (.int .i64)) (t3 : P.underlying f3.type = some (.int .i64)) (t4 : P.underlying f4.type = some (.int .u8)) (t5 : P.underlying f5.type = some (.slice sb)) (t6 : P.underlying f6.type = some (.slice ss))
    (tb : P.underlying sb = some (.int .u8)) (ts : P.underlying ss = some (.slice si)) (ti : P.underlying si = some (.int .i64)) (cb : P.cellsOf sb = 1) (cs1 : P.cellsOf ss = 1) (ci : P.cellsOf si = 1)
    (n0 : P.cellsOf f0.type = 1) (n1 : P.cellsOf f1.type = 1) (n2 : P.cellsOf f2.type = 1) (n3 : P.cellsOf f3.type = 1) (n4 : P.cellsOf f4.type = 1) (n5 : P.cellsOf f5.type = 1) (n6 : P.cellsOf f6.type = 1)
    (h : DataW.trod enc P w base (fun _ => true) held fuel t cs = some x) : ∃ a len cap L, cs = [.slice a len cap] ∧ len = L.length ∧ RdV17 w (.slice a len cap) L := by
  rcases Go.Deep.open_slice ht h with ⟨rfl, _⟩ | ⟨a, len, cap, m, n, D, Pl, rfl, hb, hl, hm, hmm, rfl, hx⟩
  · exact ⟨none, 0, 0, [], rfl, rfl, Or.inl ⟨none, 0, rfl, rfl⟩⟩
  simp only [if_true] at hmm
  by_cases hl0 : len = 0
  · subst hl0
    exact ⟨some a, 0, cap, [], rfl, rfl, Or.inl ⟨_, _, rfl, rfl⟩⟩
  obtain ⟨bb, off, spot⟩ := a
  have hspot : spot = none := by
    obtain ⟨cs', h1, _⟩ := hx 0 (by omega)
    rw [ce] at h1
    have hc := World.cells?_some h1
    have h2 := hc.2.2 0 (by omega)
    obtain ⟨v, hv⟩ : ∃ v, cs'[0]? = some v := ⟨cs'[0]'(by omega), List.getElem?_eq_getElem (by omega)⟩
    rw [hv] at h2
    have := World.cell?_spot h2
    simpa [Addr.add] using this
  subst hspot
  have each : ∀ i, i < len → ∃ c : CallW, CallAtW w bb (off + i * 12) c := by
    intro i hi
    obtain ⟨cs', h1, h2⟩ := hx i (by omega)
    obtain ⟨xs, n', _, _, hlen, hxl, hf⟩ := DataW.trod_struct he h2
    rw [ce] at hlen h1
    obtain ⟨v0, v1, v2, v3, v4, r0, r1, r2, r3, r4, r5, r6, rfl⟩ := twelve hlen
    have hxl' : xs.length = 6 := hxl
    have g : ∀ k, k < 6 → ∃ y, xs[k]? = some y := fun k hk => ⟨xs[k], List.getElem?_eq_getElem (by omega)⟩
    obtain ⟨y0, q0e⟩ := g 0 (by omega)
    obtain ⟨y1, q1e⟩ := g 1 (by omega)
    obtain ⟨y2, q2e⟩ := g 2 (by omega)
    obtain ⟨y3, q3e⟩ := g 3 (by omega)
    obtain ⟨y4, q4e⟩ := g 4 (by omega)
    obtain ⟨y5, q5e⟩ := g 5 (by omega)
    have q0 := hf 0 e0 rfl
    have q1 := hf 1 e1 rfl
    have q2 := hf 2 e2 rfl
    have q3 := hf 3 e3 rfl
    have q4 := hf 4 e4 rfl
    have q5 := hf 5 e5 rfl
    rw [p0, m0, q0e] at q0
    rw [p1, m1, q1e] at q1
    rw [p2, m2, q2e] at q2
    rw [p3, m3, q3e] at q3
    rw [p4, m4, q4e] at q4
    rw [p5, m5, q5e] at q5
    obtain ⟨z0, k0, _, w0⟩ := DataW.trod_int u0 q0
    obtain ⟨z1, k1, _, w1⟩ := DataW.trod_int u1 q1
    obtain ⟨z2, k2, _, w2⟩ := DataW.trod_int u2 q2
    simp at k0 k1 k2
    subst k0 k1 k2
    obtain ⟨c, hc7, hcv⟩ := open_acell h4 m5 o0 o1 o2 o3 o4 o5 o6 t0 t1 t2 t3 t4 t5 t6 tb ts ti cb cs1 ci n0 n1 n2 n3 n4 n5 n6 q5
    simp at hc7
    obtain ⟨rfl, rfl, rfl, rfl, rfl, rfl, rfl⟩ := hc7
    obtain ⟨pb, hvb⟩ : ∃ pb, Rd w v3 pb := by
      rcases open_ints u3 tb cb q3 with ⟨hcs, _⟩ | ⟨x4, l4, c4, zs, hcs, _, hl4, hm4, hz, _, hcell, hwz⟩
      · simp at hcs
        subst hcs
        obtain ⟨p, _, hp⟩ := rd_row (w := w) (a := none) (len := 0) (cap := 0) (zs := []) (Or.inl ⟨rfl, rfl, rfl, rfl⟩)
        exact ⟨p, hp⟩
      · simp at hcs
        subst hcs
        obtain ⟨p, _, hp⟩ := rd_row (w := w) (a := some x4) (len := l4) (cap := c4) (zs := zs) (Or.inr ⟨x4, rfl, hl4, hm4, by simpa using hz, hcell, hwz⟩)
        exact ⟨p, hp⟩
    obtain ⟨pk, hvk⟩ : ∃ pk, RdB w v4 pk := by
      rcases Go.Deep.open_bools u4 tO co1 q4 with ⟨hcs, _⟩ | ⟨x4, l4, c4, B4, hcs, _, hl4, hm4, _, hcell⟩
      · simp at hcs
        subst hcs
        exact ⟨[], rdB_none⟩
      · simp at hcs
        subst hcs
        exact rdB_row hl4 hm4 hcell
    obtain ⟨hbase, _, hc⟩ := World.cells?_some h1
    have kk : ∀ k, k < 12 → w.cell? ⟨bb, off + i * 12 + k, none⟩ = [Value.int .i64 z0, .int .i64 z1, .int .i64 z2, v3, v4, .int .i64 c.kind, .int .i64 c.d, .int .i64 c.n, .int .i64 c.m, .int .u8 ((c.by8.toNat : Nat) : Int), c.vb, c.vk][k]? := by
      intro k hk
      have := hc k hk
      rw [Go.Deep.add_add, add_at, ← Nat.add_assoc] at this
      exact this
    exact ⟨⟨z0, z1, z2, v3, pb, v4, pk, c⟩, kk 0 (by omega), kk 1 (by omega), kk 2 (by omega), kk 3 (by omega), kk 4 (by omega), kk 5 (by omega), kk 6 (by omega), kk 7 (by omega), kk 8 (by omega), kk 9 (by omega), kk 10 (by omega), kk 11 (by omega), w0, w1, w2, hvb, hvk, hcv⟩
  obtain ⟨F, hF⟩ := Go.Deep.choose_lt each
  have hlen : ((List.range len).map F).length = len := by simp
  refine ⟨some ⟨bb, off, none⟩, len, cap, (List.range len).map F, rfl, hlen.symm, ?_⟩
  have hc0 := (hF 0 (by omega)).s0
  have hbw : bb < w.heap.size := by
    unfold World.cell? at hc0
    by_cases hb : bb < w.heap.size
    · exact hb
    · rw [Array.getElem?_eq_none (by show w.heap.size ≤ bb; omega)] at hc0; cases hc0
  refine Or.inr ⟨bb, off, cap, fun e => by rw [e] at hlen; simp at hlen; omega, by rw [hlen], by rw [hlen]; omega, hbw, fun i hi => ?_⟩
  rw [hlen] at hi
  have e1 : ((List.range len).map F).getD i default = F i := by simp [List.getD, hi]
  rw [e1]
  exact hF i hi
end
end Go.Proofs.YtgahaebfgmbckaaGreat.Gf

namespace Go.Proofs.YtgahaebfgmbckaaGreat.Gf
set_option linter.unusedVariables false
set_option linter.unusedSimpArgs false
open Go.RowKit
set_option maxRecDepth 100000 in
theorem vsmall_any {w : World} {k n m : Int} {da ka ba ca : Option Addr} {dl dc kl kc bl bc cl cc : Nat} {q0 q1 q2 q3 : Int} {q4 : Int} {x : Bool} (hx : decide (dl ≤ 60 ∧ kl ≤ 40) = x) :
    Calls Tryz.prog 7 #[.agg #[.int .i64 k, .int .i64 n, .int .i64 m, .slice da dl dc, .slice ka kl kc, .int .i64 q0, .int .i64 q1, .int .i64 q2, .int .i64 q3, .int .u8 q4, .slice ba bl bc, .slice ca cl cc]] w fun e w' => e = .returned (.bool x) ∧ Below w.heap.size w w' := by
  have HX : Hid (decide (dl ≤ 60 ∧ kl ≤ 40) = x) := hx
  clear hx
  by_cases h1 : (dl : Int) ≤ 60
  · by_cases h2 : (kl : Int) ≤ 40
    · have E : x = true := by rw [← HX.out]; exact decide_eq_true ⟨by omega, by omega⟩
      subst E
      clear HX
      go_enter Tryz.func7, Tryz.ntmps7
      go_wp2
      go_ret
      exact ⟨rfl, belR _ _⟩
    · have E : x = false := by rw [← HX.out]; exact decide_eq_false fun q => by omega
      subst E
      clear HX
      go_enter Tryz.func7, Tryz.ntmps7
      go_wp2
      go_ret
      exact ⟨rfl, belR _ _⟩
  · have E : x = false := by rw [← HX.out]; exact decide_eq_false fun q => by omega
    subst E
    clear HX
    go_enter Tryz.func7, Tryz.ntmps7
    go_wp2
    go_ret
    exact ⟨rfl, belR _ _⟩
end Go.Proofs.YtgahaebfgmbckaaGreat.Gf

namespace Go.Proofs.YtgahaebfgmbckaaGreat.Gf
set_option linter.unusedVariables false
set_option linter.unusedSimpArgs false
open Go.RowKit
section
variable {u1 w : World} {ab rb : Nat} {G HR : Nat → Prop} {a : ArS}
def DidV (u1 : World) (ab rb : Nat) (HR : Nat → Prop) (e : Ending) (w' : World) : Prop := e = .returned (.bool true) ∧ ∃ G' a', BothA u1 w' ab rb G' HR a'
theorem dv_end {p : Prop} (h : p := by
  go_wp2
  go_ret
  exact ⟨rfl, FF.out⟩) : p := h
set_option maxRecDepth 100000 in
set_option maxHeartbeats 4000000 in
theorem did17_any (h : BothA u1 w ab rb G HR a) {kd n m : Int} (wn : (Lit.int .i64 n).wf = true) {d : List UInt8} {da : Option Addr} {dc : Nat} (pd : Rd u1 (.slice da d.length dc) d) (hd : d.length ≤ 100000) {kn : List Bool} {na : Option Addr} {nc : Nat} (pn : RdB u1 (.slice na kn.length nc) kn)
    {ak cd cn cm : Int} {cy : UInt8} {cb : List UInt8} {ck : List VI} {ba ka : Option Addr} {bc kc : Nat} (pb : Rd u1 (.slice ba cb.length bc) cb) (pk : RdII u1 (.slice ka ck.length kc) ck) (wd : (Lit.int .i64 cd).wf = true) (wcn : (Lit.int .i64 cn).wf = true) (wcm : (Lit.int .i64 cm).wf = true) (hk : ∀ r ∈ ck, r.2.length ≤ 9223372036854775807) :
    Calls Tryz.prog 8 #[.pointer (some ⟨ab, 0, none⟩), .pointer (some ⟨rb, 0, none⟩), .agg #[.int .i64 kd, .int .i64 n, .int .i64 m, .slice da d.length dc, .slice na kn.length nc, .int .i64 ak, .int .i64 cd, .int .i64 cn, .int .i64 cm, .int .u8 ((cy.toNat : Nat) : Int), .slice ba cb.length bc, .slice ka ck.length kc]] w (DidV u1 ab rb HR) := by
  obtain ⟨wa, hwa⟩ : ∃ x, x = w.alloc (.cells #[.int .i64 kd, .int .i64 n, .int .i64 m, .slice da d.length dc, .slice na kn.length nc, .int .i64 ak, .int .i64 cd, .int .i64 cn, .int .i64 cm, .int .u8 ((cy.toNat : Nat) : Int), .slice ba cb.length bc, .slice ka ck.length kc] 38) := ⟨_, rfl⟩
  have bA : Below w.heap.size w wa := by rw [hwa]; exact belR _ _
  have cX : ∀ j, wa.cell? ⟨w.heap.size, j, none⟩ = (#[.int .i64 kd, .int .i64 n, .int .i64 m, .slice da d.length dc, .slice na kn.length nc, .int .i64 ak, .int .i64 cd, .int .i64 cn, .int .i64 cm, .int .u8 ((cy.toNat : Nat) : Int), .slice ba cb.length bc, .slice ka ck.length kc] : Array Value)[j]? := fun j => by rw [hwa]; exact World.cell?_alloc_new _ _ _ _
  have lA : w.heap.size < wa.heap.size := by rw [hwa]; simp
  have hA := h.below bA
  have nX : Hid (¬ G w.heap.size) := fun e => by have := h.D.at_.lt _ e; omega
  have rX : Hid (¬ HR w.heap.size) := fun e => by have := h.R.lt _ e; omega
  clear h bA
  obtain ⟨X, hX⟩ : ∃ X, Hid (X = w.heap.size) := ⟨_, rfl⟩
  rw [← hX.out] at cX lA nX rX
  have y0 := cX 0
  have y1 := cX 1
  have y2 := cX 2
  have y3 := cX 3
  have y4 := cX 4
  have y5 := cX 5
  have y6 := cX 6
  have y7 := cX 7
  have y8 := cX 8
  have y9 := cX 9
  have y10 := cX 10
  have y11 := cX 11
  simp at y0 y1 y2 y3 y4 y5 y6 y7 y8 y9 y10 y11
  by_cases k1 : kd = 1
  · subst k1
    have KW := vwrite17_any hA.D.at_ (ad := n) (ep := m) wn (pd.below hA.B) hd
    have KR := fun W G2 (hR : RaAt W rb HR G2 a) (p2 : Rd W (.slice da d.length dc) d) => rwrite17_any hR (ad := n) (ep := m) p2 hd
    have HKR : Hid _ := KR
    clear KR cX
    go_enter Tryz.func8, Tryz.ntmps8
    go_wp2_with fail
    rw [← hwa, ← hX.out]
    clear hwa hX
    refine KW.mono ?_
    rintro _ v2 ⟨rfl, G2, A2, g2⟩
    have R2 := RaAt.other hA.R g2 A2.lt
    have p2 := pd.below (hA.B.trans (hA.D.bel g2))
    have z1 := (g2.turn.cell (p := ⟨X, 1, none⟩) lA nX.out).trans y1
    have z2 := (g2.turn.cell (p := ⟨X, 2, none⟩) lA nX.out).trans y2
    have z3 := (g2.turn.cell (p := ⟨X, 3, none⟩) lA nX.out).trans y3
    have K2 := HKR.out _ _ R2 p2
    clear KW HKR R2 p2 y0 y1 y2 y3 y4 y5 y6 y7 y8 y9 y10 y11
    go_wp2_with fail
    refine K2.mono ?_
    rintro _ v3 ⟨rfl, R3, t3⟩
    have FF : Hid (∃ G' a', BothA u1 v3 ab rb G' HR a') := ⟨G2, _, hA.step A2 g2 R3 t3⟩
    clear K2 R3 t3 z1 z2 z3 A2 g2 hA
    exact dv_end
  by_cases k3 : kd = 3
  · subst k3
    have KW := vmend17_any hA.D.at_ (ad := n) wn (pn.below hA.B)
    have KR := fun W G2 (hR : RaAt W rb HR G2 a) (p2 : RdB W (.slice na kn.length nc) kn) => rmend17_any hR (ad := n) p2
    have HKR : Hid _ := KR
    clear KR cX
    go_enter Tryz.func8, Tryz.ntmps8
    go_wp2_with fail
    rw [← hwa, ← hX.out]
    clear hwa hX
    refine KW.mono ?_
    rintro _ v2 ⟨rfl, G2, A2, g2⟩
    have R2 := RaAt.other hA.R g2 A2.lt
    have p2 := pn.below (hA.B.trans (hA.D.bel g2))
    have z1 := (g2.turn.cell (p := ⟨X, 1, none⟩) lA nX.out).trans y1
    have z4 := (g2.turn.cell (p := ⟨X, 4, none⟩) lA nX.out).trans y4
    have K2 := HKR.out _ _ R2 p2
    clear KW HKR R2 p2 y0 y1 y2 y3 y4 y5 y6 y7 y8 y9 y10 y11
    go_wp2_with fail
    refine K2.mono ?_
    rintro _ v3 ⟨rfl, R3, t3⟩
    have FF : Hid (∃ G' a', BothA u1 v3 ab rb G' HR a') := ⟨G2, _, hA.step A2 g2 R3 t3⟩
    clear K2 R3 t3 z1 z4 A2 g2 hA
    exact dv_end
  by_cases k2 : kd = 2
  · subst k2
    obtain ⟨V, hV⟩ : ∃ V, Hid (V = rvV a kn n) := ⟨_, rfl⟩
    have KW := vread17_any hA.D.at_ (ad := n) wn (pn.below hA.B)
    have KR := fun W (h : BothA u1 W ab rb G HR a) => rread17_any h.R (ad := n) (pn.below h.B)
    rw [← hV.out] at KW
    simp only [← hV.out] at KR
    have HKR : Hid _ := KR
    clear KR cX
    obtain ⟨vh, ve, vda, vco, vw⟩ := V
    go_enter Tryz.func8, Tryz.ntmps8
    go_wp2_with fail
    rw [← hwa, ← hX.out]
    clear hwa hX
    refine KW.mono ?_
    rintro _ v2 ⟨vd, rfl, r2, f2, b2⟩
    obtain ⟨va, vc, ev⟩ := r2.form
    simp only at ev r2
    subst ev
    rw [show aggV ⟨vh, ve, vda, vco, vw⟩ (.slice va vda.length vc) = .agg #[.bool vh, .int .i64 ve, .slice va vda.length vc, .int .i64 ((vco : Nat) : Int), .bool vw] from rfl]
    obtain ⟨v3, hv3⟩ : ∃ v3, v3 = v2.alloc (.cells #[.bool vh, .int .i64 ve, .slice va vda.length vc, .int .i64 ((vco : Nat) : Int), .bool vw] 45) := ⟨_, rfl⟩
    have b3 : Below v2.heap.size v2 v3 := by rw [hv3]; exact belR _ _
    have b23 := b2.step16 b3 b2.size
    have h3 := hA.below b23
    have z1 := (b23.cell (p := ⟨X, 1, none⟩) lA).trans y1
    have z4 := (b23.cell (p := ⟨X, 4, none⟩) lA).trans y4
    obtain ⟨Y, hY⟩ : ∃ Y, Hid (Y = v2.heap.size) := ⟨_, rfl⟩
    have lY : Y < v3.heap.size := by rw [hY.out, hv3]; simp
    have cY : ∀ j, v3.cell? ⟨Y, j, none⟩ = (#[.bool vh, .int .i64 ve, .slice va vda.length vc, .int .i64 ((vco : Nat) : Int), .bool vw] : Array Value)[j]? := fun j => by rw [hv3, hY.out]; exact World.cell?_alloc_new _ _ _ _
    have r3 := r2.below b3
    have K2 := HKR.out _ h3
    rw [hv3] at z1 z4 K2
    clear KW HKR f2 b2 b3 b23 hA r2 y0 y1 y2 y3 y4 y5 y6 y7 y8 y9 y10 y11
    go_wp2_with fail
    rw [← hY.out]
    refine K2.mono ?_
    rintro _ v4 ⟨vd, rfl, r4, b4⟩
    rw [← hv3] at b4
    obtain ⟨wa', wc, ew⟩ := r4.form
    simp only at ew r4
    subst ew
    rw [show aggV ⟨vh, ve, vda, vco, vw⟩ (.slice wa' vda.length wc) = .agg #[.bool vh, .int .i64 ve, .slice wa' vda.length wc, .int .i64 ((vco : Nat) : Int), .bool vw] from rfl]
    obtain ⟨v5, hv5⟩ : ∃ v5, v5 = v4.alloc (.cells #[.bool vh, .int .i64 ve, .slice wa' vda.length wc, .int .i64 ((vco : Nat) : Int), .bool vw] 45) := ⟨_, rfl⟩
    have b5 : Below v4.heap.size v4 v5 := by rw [hv5]; exact belR _ _
    have b45 := b4.step16 b5 b4.size
    have h5 := h3.below b45
    have dY : ∀ j, v5.cell? ⟨Y, j, none⟩ = _ := fun j => (b45.cell (p := ⟨Y, j, none⟩) lY).trans (cY j)
    obtain ⟨Z, hZ⟩ : ∃ Z, Hid (Z = v4.heap.size) := ⟨_, rfl⟩
    have cZ : ∀ j, v5.cell? ⟨Z, j, none⟩ = (#[.bool vh, .int .i64 ve, .slice wa' vda.length wc, .int .i64 ((vco : Nat) : Int), .bool vw] : Array Value)[j]? := fun j => by rw [hv5, hZ.out]; exact World.cell?_alloc_new _ _ _ _
    have KS := rsame17_any (V := ⟨vh, ve, vda, vco, vw⟩) (U := ⟨vh, ve, vda, vco, vw⟩) (r3.below b45) (r4.below b5)
    rw [show aggV ⟨vh, ve, vda, vco, vw⟩ (.slice va vda.length vc) = .agg #[.bool vh, .int .i64 ve, .slice va vda.length vc, .int .i64 ((vco : Nat) : Int), .bool vw] from rfl, show aggV ⟨vh, ve, vda, vco, vw⟩ (.slice wa' vda.length wc) = .agg #[.bool vh, .int .i64 ve, .slice wa' vda.length wc, .int .i64 ((vco : Nat) : Int), .bool vw] from rfl] at KS
    have g0 := dY 0
    have g1 := dY 1
    have g2 := dY 2
    have g3 := dY 3
    have g4 := dY 4
    have e0 := cZ 0
    have e1 := cZ 1
    have e2 := cZ 2
    have e3 := cZ 3
    have e4 := cZ 4
    simp at g0 g1 g2 g3 g4 e0 e1 e2 e3 e4
    rw [hv5] at KS g0 g1 g2 g3 g4 e0 e1 e2 e3 e4
    clear K2 r3 r4 b4 b5 b45 dY cZ cY h3 z1 z4 hv3
    go_wp2_with fail
    rw [← hZ.out]
    refine KS.mono ?_
    rintro _ v6 ⟨xx, rfl, hxx, b6⟩
    rw [← hv5] at b6
    obtain rfl : xx = true := by first | exact hxx.2 rfl | exact hxx.2 trivial
    have FF : Hid (∃ G' a', BothA u1 v6 ab rb G' HR a') := ⟨G, _, h5.below b6⟩
    clear KS hxx b6 h5 hv5 g0 g1 g2 g3 g4 e0 e1 e2 e3 e4
    exact dv_end
  · have K := didA_any hA (kd := ak) (cd := cd) (cn := cn) (cm := cm) (cy := cy) pb pk wd wcn wcm hk
    have k1' : (kd == 1) = false := beq_eq_false_iff_ne.2 k1
    have k2' : (kd == 2) = false := beq_eq_false_iff_ne.2 k2
    have k3' : (kd == 3) = false := beq_eq_false_iff_ne.2 k3
    rw [hwa] at K y0 y5 y6 y7 y8 y9 y10 y11
    rw [hX.out] at y0 y5 y6 y7 y8 y9 y10 y11
    clear cX hA
    go_enter Tryz.func8, Tryz.ntmps8
    go_wp2_with fail
    refine K.mono ?_
    rintro _ v2 ⟨rfl, G2, I2⟩
    have FF : Hid (∃ G' a', BothA u1 v2 ab rb G' HR a') := ⟨G2, _, I2⟩
    clear K I2 y0 y5 y6 y7 y8 y9 y10 y11
    exact dv_end
end
end Go.Proofs.YtgahaebfgmbckaaGreat.Gf
