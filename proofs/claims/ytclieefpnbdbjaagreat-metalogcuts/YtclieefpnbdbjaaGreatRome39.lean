/- TEXTS JOINED: MeCL, MeAp. -/
import Derived.Test.YtclieefpnbdbjaaGreatRome38
import Derived.Test.YtclieefpnbdbjaaGreatRome30
namespace Go.Proofs.YtclieefpnbdbjaaGreat.Gf
set_option linter.unusedVariables false
set_option linter.unusedSimpArgs false
open Go.RowKit
/-- pages that are written one behind the other -/
structure LaS where
  cr : Bool
  ok : Bool
  st : ArS
def laP (a : ArS) (ep : Int) (p : Int × List UInt8) : PuS := wvP a p.1 ep p.2
def laV (a : ArS) (ep : Int) (L : List (Int × List UInt8)) : Nat → LaS
  | 0 => ⟨false, true, a⟩
  | r + 1 => if (laV a ep L r).cr = true then laV a ep L r else ⟨(laP (laV a ep L r).st ep (L.getD r default)).cr, (laV a ep L r).ok && decide (0 < (laP (laV a ep L r).st ep (L.getD r default)).n), (laP (laV a ep L r).st ep (L.getD r default)).st⟩
theorem la_go {a : ArS} {ep : Int} {L : List (Int × List UInt8)} {r : Nat} (h : (laV a ep L r).cr = false) : laV a ep L (r + 1) = ⟨(laP (laV a ep L r).st ep (L.getD r default)).cr, (laV a ep L r).ok && decide (0 < (laP (laV a ep L r).st ep (L.getD r default)).n), (laP (laV a ep L r).st ep (L.getD r default)).st⟩ := by
  rw [laV, if_neg (by rw [h]; decide)]
theorem la_stay {a : ArS} {ep : Int} {L : List (Int × List UInt8)} {r : Nat} (h : (laV a ep L r).cr = true) : ∀ k, laV a ep L (r + k) = laV a ep L r
  | 0 => rfl
  | k + 1 => by
    have ih := la_stay h k
    show laV a ep L (r + k + 1) = _
    rw [laV, ih, if_pos h]
def laX (a : ArS) (ep : Int) (L : List (Int × List UInt8)) : Int := if (laV a ep L L.length).cr = true then 130 else fiE [flAX (laV a ep L L.length).st, if (laV a ep L L.length).ok = true then 0 else 150]
def laT (a : ArS) (ep : Int) (L : List (Int × List UInt8)) : ArS := if (laV a ep L L.length).cr = true then (laV a ep L L.length).st else flAS (laV a ep L L.length).st
theorem ml_step {p : Prop} (h : p := by
  go_wp2
  go_roundw
  case rel => exact ⟨r + 1, GC, by omega, by rw [OKN.out], by go_num, RA.out, T02, CN⟩
  case measure => simp [intOf]; omega) : p := h
set_option maxRecDepth 100000 in
set_option maxHeartbeats 4000000 in
theorem mlay_any {w : World} {ab : Nat} {GA : Nat → Prop} {a : ArS} (h : ArAt w ab GA a) {ep : Int} {b off n c : Nat} {L : List (Int × List UInt8)} (hn : L.length = n) (hn1 : n ≤ 100) (hs : ∀ i, i < n → OkSe (L.getD i default).1 ep (L.getD i default).2.length)
    (hp : ∀ W, TurnG GA w W → ∀ i, i < n → ∃ v, W.cell? ⟨b, off + i * 2, none⟩ = some (.int .i64 (L.getD i default).1) ∧ W.cell? ⟨b, off + i * 2 + 1, none⟩ = some v ∧ Rd W v (L.getD i default).2) :
    Calls Tryz.prog 79 #[.pointer (some ⟨ab, 0, none⟩), .int .i64 ep, .slice (some ⟨b, off, none⟩) n c] w (LeavesA w ab GA (laT a ep L) (.int .i64 (laX a ep L))) := by
  have HA : Hid (ArAt w ab GA a) := h
  have HP : Hid (∀ W, TurnG GA w W → ∀ i, i < n → ∃ v, W.cell? ⟨b, off + i * 2, none⟩ = some (.int .i64 (L.getD i default).1) ∧ W.cell? ⟨b, off + i * 2 + 1, none⟩ = some v ∧ Rd W v (L.getD i default).2) := hp
  have HS : Hid (∀ i, i < n → OkSe (L.getD i default).1 ep (L.getD i default).2.length) := hs
  have HN : Hid (L.length = n) := hn
  clear h hp hs hn
  go_enter Tryz.func79, Tryz.ntmps79
  go_wp2_with fail
  go_loopw [7, 14] (fun tv i wr => ∃ (r : Nat) (GB : Nat → Prop), r ≤ n ∧ tv = .bool (laV a ep L r).ok ∧ i = .int .i64 (r : Int) ∧ ArAt wr ab GB (laV a ep L r).st ∧ Hid (Grew GA w GB wr) ∧ Hid ((laV a ep L r).cr = false)) (fun _ i _ => n - (intOf i).toNat)
  case atStart => exact ⟨0, GA, Nat.zero_le _, rfl, rfl, HA.out, Grew.refl _ _, rfl⟩
  case round =>
    obtain ⟨r, GB, hr, rfl, rfl, hRA, hT, hcr⟩ := hrel
    obtain ⟨y, hy⟩ : ∃ y, Hid (y = (laV a ep L r).ok) := ⟨_, rfl⟩
    rw [← hy.out]
    by_cases hlt : r < n
    · have hlt' : (r : Int) < (n : Int) := by omega
      obtain ⟨v, c0, c1, Rv⟩ := HP.out wr hT.out.turn r hlt
      have se := HS.out r hlt
      have GO := la_go hcr.out
      have STAY := fun (k : (laV a ep L (r + 1)).cr = true) => la_stay k
      obtain ⟨⟨z, d⟩, hzd⟩ : ∃ z, z = L.getD r default := ⟨_, rfl⟩
      rw [← hzd] at c0 Rv se GO
      obtain ⟨va, vc, ev⟩ := Rv.form
      subst ev
      simp only at c0 c1 Rv se
      obtain ⟨P, hP⟩ : ∃ P, Hid (P = wvP (laV a ep L r).st z ep d) := ⟨_, rfl⟩
      obtain ⟨w1, hw1⟩ : ∃ w1, w1 = wr.alloc (.cells #[.int .i64 z, .slice va d.length vc] 146) := ⟨_, rfl⟩
      have B1 : Below wr.heap.size wr w1 := by rw [hw1]; exact belR _ _
      have y0 : w1.cell? ⟨wr.heap.size, 0, none⟩ = some (.int .i64 z) := by rw [hw1]; exact World.cell?_alloc_new _ _ _ _
      have y1 : w1.cell? ⟨wr.heap.size, 1, none⟩ = some (.slice va d.length vc) := by rw [hw1]; exact World.cell?_alloc_new _ _ _ _
      have K := vwrite17_any (hRA.below B1) (ad := z) (ep := ep) (WalkArith.wf_i64 (by have := se.1; omega)) (Rv.below B1) (by have := se.2.2; omega)
      have e1 : wvX (laV a ep L r).st z ep d = puE P := by unfold wvX; rw [if_pos se, hP.out]
      have e2 : wvN (laV a ep L r).st z ep d = puN P := by unfold wvN; rw [hP.out]
      have e3 : wvS (laV a ep L r).st z ep d = P.st := by unfold wvS; rw [hP.out]
      rw [e1, e2, e3] at K
      have GO' : Hid (laV a ep L (r + 1) = ⟨P.cr, y && decide (0 < P.n), P.st⟩) := by show _ = _; rw [GO, hy.out, hP.out]; rfl
      have SS : Hid ((laV a ep L (r + 1)).cr = true → laV a ep L L.length = laV a ep L (r + 1)) := fun k => by
        obtain ⟨m, hm⟩ := Nat.exists_eq_add_of_le (show r + 1 ≤ L.length by rw [HN.out]; omega)
        rw [hm]; exact STAY k m
      clear STAY GO e1 e2 e3 hP hzd
      go_wp2_with fail
      rw [← hw1]
      clear hw1
      refine K.mono ?_
      rintro _ w2 ⟨rfl, GC, A2, g2⟩
      have T02 : Hid (Grew GA w GC w2) := (hT.out.trans (Grew.of_below B1)).trans g2
      clear K c0 c1 y0 y1 Rv B1 hT g2 hRA
      cases hcp : P.cr with
      | true =>
        have x1 : puE P = 130 := by unfold puE; rw [hcp]; rfl
        have x2 : puN P = 0 := by unfold puN; rw [hcp]; rfl
        rw [x1, x2]
        have F : Hid (LeavesA w ab GA (laT a ep L) (.int .i64 (laX a ep L)) (.returned (.int .i64 130)) w2) := by
          have e := SS.out (by rw [GO'.out]; exact hcp)
          show LeavesA _ _ _ _ _ _ _
          unfold laT laX
          rw [e, GO'.out]
          simp only [hcp, if_true]
          exact ⟨rfl, GC, A2, T02.out⟩
        clear A2 T02 GO' SS x1 x2 se
        go_wp2
        exact bodyPost_ret (v := .int .i64 130) (by simp [results, Tryz.results79, go_sem]) rfl F.out
      | false =>
        have x1 : puE P = 0 := by unfold puE; rw [hcp]; rfl
        have x2 : puN P = (P.n : Int) := by unfold puN; rw [hcp]; rfl
        rw [x1, x2]
        have RA : Hid (ArAt w2 ab GC (laV a ep L (r + 1)).st) := by show ArAt _ _ _ _; rw [GO'.out]; exact A2
        have CN : Hid ((laV a ep L (r + 1)).cr = false) := by show _ = _; rw [GO'.out]; exact hcp
        have OK0 : Hid ((laV a ep L (r + 1)).ok = (y && decide (0 < P.n))) := by show _ = _; rw [GO'.out]
        obtain ⟨N, hN⟩ : ∃ N, Hid (N = P.n) := ⟨_, rfl⟩
        rw [← hN.out] at OK0 ⊢
        clear A2 GO' SS x1 x2 se hcr hN hy
        cases y with
        | false =>
          have OKN : Hid ((laV a ep L (r + 1)).ok = false) := by show _ = _; rw [OK0.out]; rfl
          clear OK0
          exact ml_step
        | true =>
          by_cases q : 0 < N
          · have q1 : (0 : Int) < (N : Int) := by omega
            have OKN : Hid ((laV a ep L (r + 1)).ok = true) := by show _ = _; rw [OK0.out, decide_eq_true q]; rfl
            clear OK0
            exact ml_step
          · have q1 : ¬ (0 : Int) < (N : Int) := by omega
            have OKN : Hid ((laV a ep L (r + 1)).ok = false) := by show _ = _; rw [OK0.out, decide_eq_false q]; rfl
            clear OK0
            exact ml_step
    · obtain rfl : r = n := by omega
      have hge : ¬ (r : Int) < (r : Int) := by omega
      have KF := aflush_any hRA
      obtain ⟨x, hx⟩ : ∃ x, Hid (x = flAX (laV a ep L r).st) := ⟨_, rfl⟩
      rw [← hx.out] at KF
      obtain ⟨u, hu⟩ : ∃ u : Int, Hid (u = if y = true then 0 else 150) := ⟨_, rfl⟩
      obtain ⟨e, he⟩ : ∃ e, Hid (e = fiE [x, u]) := ⟨_, rfl⟩
      have F : Hid (∀ w6 GC, ArAt w6 ab GC (flAS (laV a ep L r).st) → Grew GA w GC w6 → LeavesA w ab GA (laT a ep L) (.int .i64 (laX a ep L)) (.returned (.int .i64 e)) w6) := fun w6 GC A g => by
        have hl := HN.out
        unfold laT laX
        rw [hl, hcr.out, if_neg (by decide), if_neg (by decide), ← hx.out, ← hy.out, ← hu.out, ← he.out]
        exact ⟨rfl, GC, A, g⟩
      have KU : ∀ V, Calls Tryz.prog 66 #[.bool y, .int .i64 150] V fun e w' => e = .returned (.int .i64 u) ∧ w' = V := fun V => by rw [hu.out]; exact munless_any y 150
      have K2 := fun V => @mfirst2 V x u 28 e he.out.symm
      clear hRA hu he hx hy
      go_wp2_with fail
      refine KF.mono ?_
      rintro _ w2 ⟨rfl, GC, A2, g2⟩
      have T02 : Hid (Grew GA w GC w2) := hT.out.trans g2
      clear KF g2
      go_wp2_with fail
      refine (KU _).mono ?_
      rintro _ w3 ⟨rfl, rfl⟩
      go_wp2_with fail
      refine (K2 _).mono ?_
      rintro _ w4 ⟨rfl, B4⟩
      have F2 : Hid _ := F.out w4 GC (A2.below B4) (T02.out.trans (Grew.of_below B4))
      clear F K2 KU A2 B4 T02
      go_wp2
      exact bodyPost_ret (v := .int .i64 e) (by simp [results, Tryz.results79, go_sem]) rfl F2.out
end Go.Proofs.YtclieefpnbdbjaaGreat.Gf

namespace Go.Proofs.YtclieefpnbdbjaaGreat.Gf
set_option linter.unusedVariables false
set_option linter.unusedSimpArgs false
open Go.RowKit
theorem ap_early {a : ArS} {g : GeoS} {base count : Int} {r : RcS} {e : Int} (hP : apP g base count r = e) (he : ¬ e = 0) : apX a g base count r = e ∧ apS a g base count r = a := by
  unfold apX apS
  rw [hP, if_pos he, if_pos he]
  exact ⟨rfl, rfl⟩
/-- a geometry and a record, laid as parameters -/
theorem two18 (w : World) (g : GeoS) (kd ln : Int) (ky : List UInt8) (vs : Value) (e f : Nat) : ∀ V, Below ((w.alloc (.cells (cellsG g) e)).alloc (.cells #[.int .i64 kd, .string ⟨ky.toArray⟩, .int .i64 ln, vs] f)).heap.size ((w.alloc (.cells (cellsG g) e)).alloc (.cells #[.int .i64 kd, .string ⟨ky.toArray⟩, .int .i64 ln, vs] f)) V →
    (GeoAt V w.heap.size g ∧ Below w.heap.size w V) ∧ V.cell? ⟨w.heap.size + 1, 0, none⟩ = some (.int .i64 kd) ∧ V.cell? ⟨w.heap.size + 1, 1, none⟩ = some (.string ⟨ky.toArray⟩) ∧ V.cell? ⟨w.heap.size + 1, 2, none⟩ = some (.int .i64 ln) ∧ V.cell? ⟨w.heap.size + 1, 3, none⟩ = some vs := by
  intro V hV
  obtain ⟨u, hu⟩ : ∃ u, u = w.alloc (.cells (cellsG g) e) := ⟨_, rfl⟩
  have LG := geo_laid w g e
  rw [← hu] at hV LG
  have s1 : u.heap.size = w.heap.size + 1 := by rw [hu]; simp
  have b2 : Below u.heap.size u (u.alloc (.cells #[.int .i64 kd, .string ⟨ky.toArray⟩, .int .i64 ln, vs] f)) := belR _ _
  have z : ∀ j, (u.alloc (.cells #[.int .i64 kd, .string ⟨ky.toArray⟩, .int .i64 ln, vs] f)).cell? ⟨u.heap.size, j, none⟩ = #[Value.int .i64 kd, .string ⟨ky.toArray⟩, .int .i64 ln, vs][j]? := fun j => World.cell?_alloc_new _ _ _ _
  have lt : u.heap.size < (u.alloc (.cells #[.int .i64 kd, .string ⟨ky.toArray⟩, .int .i64 ln, vs] f)).heap.size := by simp
  refine ⟨LG V (b2.step16 hV b2.size), ?_⟩
  rw [← s1]
  exact ⟨(hV.cell (p := ⟨u.heap.size, 0, none⟩) lt).trans (z 0), (hV.cell (p := ⟨u.heap.size, 1, none⟩) lt).trans (z 1), (hV.cell (p := ⟨u.heap.size, 2, none⟩) lt).trans (z 2), (hV.cell (p := ⟨u.heap.size, 3, none⟩) lt).trans (z 3)⟩
end Go.Proofs.YtclieefpnbdbjaaGreat.Gf
