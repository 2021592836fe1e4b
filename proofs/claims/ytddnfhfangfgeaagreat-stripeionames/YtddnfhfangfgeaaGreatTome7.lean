/- TEXTS JOINED: LyLA, LyLB, LyLP, LyLK, StCA, FarV, StTl, MpI. -/
import Derived.Test.YtddnfhfangfgeaaGreatTome1
import Derived.Test.YtddnfhfangfgeaaGreatTome2
import Derived.Deep.RegionHeld3
import Derived.Test.YtddnfhfangfgeaaGreatTome6
import Derived.Test.YtddnfhfangfgeaaGreatTome3
import Derived.Test.YtddnfhfangfgeaaGreatTome4
import Derived.Deep.OwnRows
import Derived.Maps.OwnSet
import Derived.Maps.Ext
namespace Go.Proofs.YtddnfhfangfgeaaGreat.Gf
set_option linter.unusedVariables false
set_option linter.unusedSimpArgs false
open Go.RowKit
theorem lchk_any {w : World} {k m : Int} {x : Int} (hx : (if okK k m then 0 else 50) = x) : Calls Tryz.prog 45 #[.int .i64 k, .int .i64 m] w fun e w' => e = .returned (.int .i64 x) ∧ w' = w := by
  by_cases h0 : k < 1
  · rw [if_neg (by unfold okK; omega)] at hx
    subst hx
    go_enter Tryz.func45, Tryz.ntmps45
    go_wp2
    go_ret
    exact ⟨rfl, rfl⟩
  by_cases h1 : k > 256
  · rw [if_neg (by unfold okK; omega)] at hx
    subst hx
    go_enter Tryz.func45, Tryz.ntmps45
    go_wp2
    go_ret
    exact ⟨rfl, rfl⟩
  by_cases h2 : m < 0
  · rw [if_neg (by unfold okK; omega)] at hx
    subst hx
    go_enter Tryz.func45, Tryz.ntmps45
    go_wp2
    go_ret
    exact ⟨rfl, rfl⟩
  by_cases h3 : m > 256
  · rw [if_neg (by unfold okK; omega)] at hx
    subst hx
    go_enter Tryz.func45, Tryz.ntmps45
    go_wp2
    go_ret
    exact ⟨rfl, rfl⟩
  have gw : IntKind.i64.wrap (k + m) = k + m := by rw [IntKind.wrap_i64]; omega
  by_cases h4 : k + m > 256
  · rw [if_neg (by unfold okK; omega)] at hx
    subst hx
    go_enter Tryz.func45, Tryz.ntmps45
    go_wp2
    go_ret
    exact ⟨rfl, rfl⟩
  · rw [if_pos (by unfold okK; omega)] at hx
    subst hx
    go_enter Tryz.func45, Tryz.ntmps45
    go_wp2
    go_ret
    exact ⟨rfl, rfl⟩
theorem lis_any {w : World} {i n : Int} {x : Bool} (hx : decide (0 ≤ i ∧ i < n) = x) : Calls Tryz.prog 60 #[.int .i64 i, .int .i64 n] w fun e w' => e = .returned (.bool x) ∧ w' = w := by
  by_cases h0 : i ≥ 0
  · by_cases h1 : i < n
    · rw [decide_eq_true ⟨h0, h1⟩] at hx
      subst hx
      go_enter Tryz.func60, Tryz.ntmps60
      go_wp2
      go_ret
      exact ⟨rfl, rfl⟩
    · rw [decide_eq_false (fun h => h1 h.2)] at hx
      subst hx
      go_enter Tryz.func60, Tryz.ntmps60
      go_wp2
      go_ret
      exact ⟨rfl, rfl⟩
  · rw [decide_eq_false (fun h => h0 h.1)] at hx
    subst hx
    go_enter Tryz.func60, Tryz.ntmps60
    go_wp2
    go_ret
    exact ⟨rfl, rfl⟩
theorem ldisks_any {w : World} {g : GeoS} {x : Int} (hx : IntKind.i64.wrap (g.k + g.m) = x) : Calls Tryz.prog 47 #[aggG g] w fun e w' => e = .returned (.int .i64 x) ∧ Below w.heap.size w w' := by
  obtain ⟨k, m, z, s, t, o⟩ := g
  rw [show aggG ⟨k, m, z, s, t, o⟩ = .agg #[.int .i64 k, .int .i64 m, .int .i64 z, .int .i64 s, .int .i64 t, .int .i64 o] from rfl]
  have FB := fun o => belL w o
  simp only at hx
  go_enter Tryz.func47, Tryz.ntmps47
  go_wp2
  go_ret
  exact ⟨rfl, FB _⟩
theorem lask_any {w : World} {b : Nat} {n most : Int} {x y : Bool} (hy : (x && decide (1 ≤ n ∧ n ≤ most)) = y) (c : w.cell? ⟨b, 0, none⟩ = some (.bool x)) (fz : w.frozen? ⟨b, 0, none⟩ = false) : Calls Tryz.prog 46 #[.int .i64 n, .int .i64 most, .pointer (some ⟨b, 0, none⟩)] w fun e w' => e = .returned (.tuple #[]) ∧ w'.cell? ⟨b, 0, none⟩ = some (.bool y) ∧ w'.frozen? ⟨b, 0, none⟩ = false ∧ Only b w w' := by
  have OO := fun v => (Only.refl b w).setCell 0 v
  have FF : ∀ v : Value, (w.setCell ⟨b, 0, none⟩ v).frozen? ⟨b, 0, none⟩ = false := fun v => by simp [go_sem, fz]
  have CC : ∀ v : Value, (w.setCell ⟨b, 0, none⟩ v).cell? ⟨b, 0, none⟩ = some v := fun v => by simp [go_sem, c]
  cases x
  · rw [Bool.false_and] at hy
    subst hy
    go_enter Tryz.func46, Tryz.ntmps46
    go_wp2
    go_end0
    exact ⟨rfl, CC _, FF _, OO _⟩
  · rw [Bool.true_and] at hy
    by_cases h0 : n ≥ 1
    · by_cases h1 : n ≤ most
      · rw [decide_eq_true ⟨h0, h1⟩] at hy
        subst hy
        go_enter Tryz.func46, Tryz.ntmps46
        go_wp2
        go_end0
        exact ⟨rfl, CC _, FF _, OO _⟩
      · rw [decide_eq_false (fun h => h1 h.2)] at hy
        subst hy
        go_enter Tryz.func46, Tryz.ntmps46
        go_wp2
        go_end0
        exact ⟨rfl, CC _, FF _, OO _⟩
    · rw [decide_eq_false (fun h => h0 h.1)] at hy
      subst hy
      go_enter Tryz.func46, Tryz.ntmps46
      go_wp2
      go_end0
      exact ⟨rfl, CC _, FF _, OO _⟩
/-- a geometry, and whether it may be as far as was asked -/
structure ChkAt (w W : World) (gb mb : Nat) (g : GeoS) (y : Bool) : Prop where
  geo : GeoAt W gb g
  may : W.cell? ⟨mb, 0, none⟩ = some (.bool y)
  fz : W.frozen? ⟨mb, 0, none⟩ = false
  l1 : mb < W.heap.size
  l2 : gb < W.heap.size
  l3 : w.heap.size ≤ mb
  ne : gb ≠ mb
  b : Below w.heap.size w W
theorem ChkAt.below {w W W' : World} {gb mb : Nat} {g : GeoS} {y : Bool} (h : ChkAt w W gb mb g y) (hB : Below W.heap.size W W') : ChkAt w W' gb mb g y :=
  ⟨h.geo.below h.l2 hB, (hB.cell (p := ⟨mb, 0, none⟩) h.l1).trans h.may, (hB.frozen (p := ⟨mb, 0, none⟩) h.l1).trans h.fz, Nat.lt_of_lt_of_le h.l1 hB.size, Nat.lt_of_lt_of_le h.l2 hB.size, h.l3, h.ne, h.b.stepL hB h.b.size⟩
theorem ChkAt.ask {w W W' : World} {gb mb : Nat} {g : GeoS} {y y' : Bool} (h : ChkAt w W gb mb g y) (c : W'.cell? ⟨mb, 0, none⟩ = some (.bool y')) (f : W'.frozen? ⟨mb, 0, none⟩ = false) (hO : Only mb W W') : ChkAt w W' gb mb g y' :=
  ⟨⟨(hO.cell (p := ⟨gb, 0, none⟩) h.ne).trans h.geo.1, (hO.cell (p := ⟨gb, 1, none⟩) h.ne).trans h.geo.2.1, (hO.cell (p := ⟨gb, 2, none⟩) h.ne).trans h.geo.2.2.1, (hO.cell (p := ⟨gb, 3, none⟩) h.ne).trans h.geo.2.2.2.1, (hO.cell (p := ⟨gb, 4, none⟩) h.ne).trans h.geo.2.2.2.2.1, (hO.cell (p := ⟨gb, 5, none⟩) h.ne).trans h.geo.2.2.2.2.2⟩, c, f, by rw [hO.size]; exact h.l1, by rw [hO.size]; exact h.l2, h.l3, h.ne, h.b.trans (hO.below h.l3)⟩
theorem chk_laid (w : World) (g : GeoS) (e e2 : Nat) (y : Bool) : ChkAt w ((w.alloc (.cells (cellsG g) e)).alloc (.cells #[.bool y] e2)) w.heap.size (w.heap.size + 1) g y := by
  have B0 := belL (w.alloc (.cells (cellsG g) e)) (.cells #[.bool y] e2)
  obtain ⟨h1, h2⟩ := geo_laid w g e _ B0
  refine ⟨h1, ?_, ?_, by simp, by simp; omega, by omega, by omega, h2⟩
  · simp
  · have hs : (w.alloc (.cells (cellsG g) e)).heap.size = w.heap.size + 1 := by simp
    rw [← hs]
    simp [go_sem]
theorem ch_all {k m z s t o : Int} {y : Bool} {n : Int} (hn : okK k m → n = k + m) (h : (decide (okK k m) && decide (1 ≤ n ∧ n ≤ 32) && decide (1 ≤ z ∧ z ≤ 4096) && decide (1 ≤ s ∧ s ≤ 256) && decide (1 ≤ t ∧ t ≤ 64) && decide (1 ≤ o ∧ o ≤ 64)) = y) : chG ⟨k, m, z, s, t, o⟩ = if y = true then 0 else 50 := by
  subst h
  unfold chG
  by_cases ho : okG ⟨k, m, z, s, t, o⟩
  · rw [if_pos ho, if_pos]
    obtain ⟨o1, o2, o3, o4, o5, o6, o7, o8, o9, o10, o11⟩ := ho
    simp only at o1 o2 o3 o4 o5 o6 o7 o8 o9 o10 o11
    have hk : okK k m := by unfold okK; omega
    have e := hn hk
    simp only [Bool.and_eq_true, decide_eq_true_eq]
    exact ⟨⟨⟨⟨⟨hk, by omega⟩, by omega⟩, by omega⟩, by omega⟩, by omega⟩
  · rw [if_neg ho, if_neg]
    intro h
    simp only [Bool.and_eq_true, decide_eq_true_eq] at h
    obtain ⟨⟨⟨⟨⟨hk, h1⟩, h2⟩, h3⟩, h4⟩, h5⟩ := h
    have e := hn hk
    unfold okK at hk
    exact ho ⟨by simp only; omega, by simp only; omega, by simp only; omega, by simp only; omega, by simp only; omega, by simp only; omega, by simp only; omega, by simp only; omega, by simp only; omega, by simp only; omega, by simp only; omega⟩
set_option maxRecDepth 100000 in
set_option maxHeartbeats 4000000 in
theorem lcheck_any {w : World} {g : GeoS} (hg : g.Wf) {x : Int} (hx : chG g = x) : Calls Tryz.prog 16 #[aggG g] w fun e w' => e = .returned (.int .i64 x) ∧ Below w.heap.size w w' := by
  obtain ⟨k, m, z, s, t, o⟩ := g
  have K := fun W => @lchk_any W k m _ rfl
  have KD := fun W => @ldisks_any W ⟨k, m, z, s, t, o⟩ _ rfl
  simp only at KD
  have LA := chk_laid w ⟨k, m, z, s, t, o⟩
  rw [show aggG ⟨k, m, z, s, t, o⟩ = .agg #[.int .i64 k, .int .i64 m, .int .i64 z, .int .i64 s, .int .i64 t, .int .i64 o] from rfl] at KD ⊢
  obtain ⟨n, hn⟩ : ∃ n, Hid (n = IntKind.i64.wrap (k + m)) := ⟨_, rfl⟩
  rw [← hn.out] at KD
  have hn2 : Hid (okK k m → n = k + m) := fun hk => by rw [hn.out, IntKind.wrap_i64]; unfold okK at hk; omega
  clear hn
  obtain ⟨y0, e0⟩ : ∃ y, Hid (decide (okK k m) = y) := ⟨_, rfl⟩
  obtain ⟨y1, e1⟩ : ∃ y, Hid ((y0 && decide (1 ≤ n ∧ n ≤ 32)) = y) := ⟨_, rfl⟩
  obtain ⟨y2, e2⟩ : ∃ y, Hid ((y1 && decide (1 ≤ z ∧ z ≤ 4096)) = y) := ⟨_, rfl⟩
  obtain ⟨y3, e3⟩ : ∃ y, Hid ((y2 && decide (1 ≤ s ∧ s ≤ 256)) = y) := ⟨_, rfl⟩
  obtain ⟨y4, e4⟩ : ∃ y, Hid ((y3 && decide (1 ≤ t ∧ t ≤ 64)) = y) := ⟨_, rfl⟩
  obtain ⟨y5, e5⟩ : ∃ y, Hid ((y4 && decide (1 ≤ o ∧ o ≤ 64)) = y) := ⟨_, rfl⟩
  have EX : Hid (x = if y5 = true then 0 else 50) := by
    show _ = _
    rw [← hx]
    exact ch_all hn2.out (by rw [e0.out, e1.out, e2.out, e3.out, e4.out, e5.out])
  clear hx
  obtain ⟨q, hq⟩ : ∃ q : Int, Hid (q = if okK k m then 0 else 50) := ⟨_, rfl⟩
  rw [← hq.out] at K
  have E0 : (q == 0) = y0 := by
    rw [hq.out, ← e0.out]
    by_cases h : okK k m
    · rw [if_pos h, decide_eq_true h]; rfl
    · rw [if_neg h, decide_eq_false h]; rfl
  go_enter Tryz.func16, Tryz.ntmps16
  go_wp2_with fail
  refine (K _).mono ?_
  rintro _ wq ⟨rfl, hwq⟩
  rw [hwq]
  clear hwq wq K
  have C0 : Hid (ChkAt w ((w.alloc (.cells (cellsG ⟨k, m, z, s, t, o⟩) 24)).alloc (.cells #[.bool (q == 0)] 4)) w.heap.size (w.heap.size + 1) ⟨k, m, z, s, t, o⟩ y0) := by
    have := LA 24 4 (q == 0)
    rw [E0] at this ⊢
    exact this
  clear E0 LA
  go_wp2_with fail
  refine (KD _).mono ?_
  rintro _ v0 ⟨rfl, b0⟩
  have C1 := C0.out.below b0
  clear b0 C0 KD
  obtain ⟨x0, x1, x2, x3, x4, x5⟩ := C1.geo
  have xm := C1.may
  have xf := C1.fz
  simp only at x0 x1 x2 x3 x4 x5
  go_wp2_with fail
  refine (lask_any e1.out xm xf).mono ?_
  rintro _ v1 ⟨rfl, cm, cf, O1⟩
  have C2 := C1.ask cm cf O1
  clear x0 x1 x2 x3 x4 x5 xm xf cm cf O1 C1
  obtain ⟨x0, x1, x2, x3, x4, x5⟩ := C2.geo
  have xm := C2.may
  have xf := C2.fz
  simp only at x0 x1 x2 x3 x4 x5
  go_wp2_with fail
  refine (lask_any e2.out xm xf).mono ?_
  rintro _ v2 ⟨rfl, cm, cf, O2⟩
  have C3 := C2.ask cm cf O2
  clear x0 x1 x2 x3 x4 x5 xm xf cm cf O2 C2
  obtain ⟨x0, x1, x2, x3, x4, x5⟩ := C3.geo
  have xm := C3.may
  have xf := C3.fz
  simp only at x0 x1 x2 x3 x4 x5
  go_wp2_with fail
  refine (lask_any e3.out xm xf).mono ?_
  rintro _ v3 ⟨rfl, cm, cf, O3⟩
  have C4 := C3.ask cm cf O3
  clear x0 x1 x2 x3 x4 x5 xm xf cm cf O3 C3
  obtain ⟨x0, x1, x2, x3, x4, x5⟩ := C4.geo
  have xm := C4.may
  have xf := C4.fz
  simp only at x0 x1 x2 x3 x4 x5
  go_wp2_with fail
  refine (lask_any e4.out xm xf).mono ?_
  rintro _ v4 ⟨rfl, cm, cf, O4⟩
  have C5 := C4.ask cm cf O4
  clear x0 x1 x2 x3 x4 x5 xm xf cm cf O4 C4
  obtain ⟨x0, x1, x2, x3, x4, x5⟩ := C5.geo
  have xm := C5.may
  have xf := C5.fz
  simp only at x0 x1 x2 x3 x4 x5
  go_wp2_with fail
  refine (lask_any e5.out xm xf).mono ?_
  rintro _ v5 ⟨rfl, cm, cf, O5⟩
  have C6 := C5.ask cm cf O5
  clear x0 x1 x2 x3 x4 x5 xm xf cm cf O5 C5
  obtain ⟨x0, x1, x2, x3, x4, x5⟩ := C6.geo
  have xm := C6.may
  have xf := C6.fz
  simp only at x0 x1 x2 x3 x4 x5
  have F := C6.b
  clear C6
  cases y5
  · have X := EX.out
    simp only [Bool.false_eq_true, if_false] at X
    subst X
    go_wp2
    go_ret
    exact ⟨rfl, F⟩
  · have X := EX.out
    simp only [if_true] at X
    subst X
    go_wp2
    go_ret
    exact ⟨rfl, F⟩
end Go.Proofs.YtddnfhfangfgeaaGreat.Gf

namespace Go.Proofs.YtddnfhfangfgeaaGreat.Gf
set_option linter.unusedVariables false
set_option linter.unusedSimpArgs false
open Go.RowKit
def sumZ (f : Nat → Int) : Nat → Int
  | 0 => 0
  | n + 1 => sumZ f n + f n
theorem sumZ_le {f : Nat → Int} {n : Nat} (h : ∀ i, i < n → 0 ≤ f i ∧ f i ≤ 1000000) : ∀ r, r ≤ n → 0 ≤ sumZ f r ∧ sumZ f r ≤ 1000000 * (r : Int)
  | 0, _ => by simp [sumZ]
  | r + 1, hr => by
    have h1 := sumZ_le h r (by omega)
    have h2 := h r (by omega)
    simp only [sumZ]
    omega
set_option maxRecDepth 100000 in
set_option maxHeartbeats 2000000 in
theorem lbeh_any {w : World} {b n c : Nat} {f : Nat → Int} (hn : n ≤ 100) (h : ∀ i, i < n → 0 ≤ f i ∧ f i ≤ 1000000) (hc : ∀ i, i < n → w.cell? ⟨b, i, none⟩ = some (.int .i64 (f i))) {x : Int} (hx : sumZ f n = x) : Calls Tryz.prog 48 #[.slice (some ⟨b, 0, none⟩) n c] w fun e w' => e = .returned (.int .i64 x) ∧ w' = w := by
  have SB := sumZ_le h
  have HX : Hid (sumZ f n = x) := hx
  have HC : Hid (∀ i, i < n → w.cell? ⟨b, i, none⟩ = some (.int .i64 (f i))) := hc
  clear hx hc
  go_enter Tryz.func48, Tryz.ntmps48
  go_wp2
  go_loopw [3, 8] (fun o i wr => ∃ r : Nat, r ≤ n ∧ i = .int .i64 (r : Int) ∧ o = .int .i64 (sumZ f r) ∧ wr = w) (fun _ i _ => n - (intOf i).toNat)
  case atStart => exact ⟨0, by omega, rfl, rfl, rfl⟩
  case round =>
    obtain ⟨r, hr, rfl, rfl, rfl⟩ := hrel
    by_cases hlt : r < n
    · have c1 := HC.out r hlt
      have hlt' : (r : Int) < (n : Int) := by omega
      have s1 := SB r hr
      have s2 := SB (r + 1) (by omega)
      obtain ⟨y, hy⟩ : ∃ y, Hid (y = sumZ f (r + 1)) := ⟨_, rfl⟩
      obtain ⟨u, hu⟩ : ∃ u, Hid (u = f r) := ⟨_, rfl⟩
      obtain ⟨v, hv⟩ : ∃ v, Hid (v = sumZ f r) := ⟨_, rfl⟩
      have e1 : v + u = y := by rw [hy.out, hv.out, hu.out]; rfl
      rw [← hy.out] at s2
      rw [← hu.out] at c1
      rw [← hv.out] at s1 ⊢
      have gw : IntKind.i64.wrap y = y := by rw [IntKind.wrap_i64]; omega
      have gr : IntKind.i64.wrap ((r : Int) + 1) = ((r + 1 : Nat) : Int) := by rw [IntKind.wrap_i64]; omega
      go_wp2
      go_roundw
      case rel => exact ⟨r + 1, by omega, by go_num, by rw [hy.out], by first | trivial | rfl⟩
      case measure => simp [intOf]; omega
    · obtain rfl : r = n := by omega
      have hlt' : ¬ (r : Int) < (r : Int) := by omega
      have E := HX.out
      rw [E]
      clear E SB
      go_wp2
      go_ret
      exact ⟨rfl, rfl⟩
end Go.Proofs.YtddnfhfangfgeaaGreat.Gf

namespace Go.Proofs.YtddnfhfangfgeaaGreat.Gf
set_option linter.unusedVariables false
set_option linter.unusedSimpArgs false
open Go.RowKit
/-- three numbers, two numbers laid in a row -/
theorem beh3 {w : World} {a b c : Int} (e : Nat) (ha : 0 ≤ a ∧ a ≤ 1000000) (hb : 0 ≤ b ∧ b ≤ 1000000) (hc : 0 ≤ c ∧ c ≤ 1000000) {x : Int} (hx : a + b + c = x) : Calls Tryz.prog 48 #[.slice (some ⟨w.heap.size, 0, none⟩) 3 3] (w.alloc (.cells #[.int .i64 a, .int .i64 b, .int .i64 c] e)) fun e w' => e = .returned (.int .i64 x) ∧ Below w.heap.size w w' := by
  have cc : ∀ j, (w.alloc (.cells #[.int .i64 a, .int .i64 b, .int .i64 c] e)).cell? ⟨w.heap.size, j, none⟩ = (#[.int .i64 a, .int .i64 b, .int .i64 c] : Array Value)[j]? := fun j => World.cell?_alloc_new _ _ _ _
  refine (lbeh_any (x := x) (f := fun i => if i = 0 then a else if i = 1 then b else c) (by decide) ?_ ?_ ?_).mono ?_
  · intro i hi
    show 0 ≤ (if i = 0 then a else if i = 1 then b else c) ∧ (if i = 0 then a else if i = 1 then b else c) ≤ 1000000
    split
    · exact ha
    · split
      · exact hb
      · exact hc
  · intro i hi
    rw [cc]
    rcases i with _ | _ | _ | i
    · rfl
    · rfl
    · rfl
    · omega
  · rw [← hx]
    simp [sumZ]
  · rintro _ _ ⟨rfl, rfl⟩
    exact ⟨rfl, belL _ _⟩
set_option maxRecDepth 100000 in
set_option maxHeartbeats 1000000 in
theorem lsec_any {w : World} {g : GeoS} (hg : g.Wf) {x : Int} (hx : secG g = x) : Calls Tryz.prog 17 #[aggG g] w fun e w' => e = .returned (.int .i64 x) ∧ Below w.heap.size w w' := by
  obtain ⟨k, m, z, s, t, o⟩ := g
  have LA := geo_laid w ⟨k, m, z, s, t, o⟩
  rw [show aggG ⟨k, m, z, s, t, o⟩ = .agg #[.int .i64 k, .int .i64 m, .int .i64 z, .int .i64 s, .int .i64 t, .int .i64 o] from rfl]
  have bk := bounds_i64 hg.k
  have bm := bounds_i64 hg.m
  simp only at bk bm
  have KC := fun W => @lcheck_any W ⟨k, m, z, s, t, o⟩ hg _ rfl
  rw [show aggG ⟨k, m, z, s, t, o⟩ = .agg #[.int .i64 k, .int .i64 m, .int .i64 z, .int .i64 s, .int .i64 t, .int .i64 o] from rfl] at KC
  by_cases h0 : okG ⟨k, m, z, s, t, o⟩
  · rw [show chG ⟨k, m, z, s, t, o⟩ = 0 from if_pos h0] at KC
    rw [show secG ⟨k, m, z, s, t, o⟩ = 5 + t + s from if_pos h0] at hx
    obtain ⟨o1, o2, o3, o4, o5, o6, o7, o8, o9, o10, o11⟩ := h0
    simp only at o1 o2 o3 o4 o5 o6 o7 o8 o9 o10 o11
    subst hx
    go_enter Tryz.func17, Tryz.ntmps17
    go_wp2_with fail
    refine (KC _).mono ?_
    rintro _ w1 ⟨rfl, B1⟩
    obtain ⟨⟨x0, x1, x2, x3, x4, x5⟩, F1⟩ := LA _ _ B1
    simp only at x0 x1 x2 x3 x4 x5
    clear B1 LA KC
    go_wp2_with fail
    refine (beh3 _ (by omega) (by omega) (by omega) rfl).mono ?_
    rintro _ w2 ⟨rfl, B2⟩
    have F2 := F1.stepL B2 F1.size
    clear B2 F1 x0 x1 x2 x3 x4 x5
    go_wp2
    go_ret
    exact ⟨rfl, F2⟩
  · rw [show chG ⟨k, m, z, s, t, o⟩ = 50 from if_neg h0] at KC
    rw [show secG ⟨k, m, z, s, t, o⟩ = 0 from if_neg h0] at hx
    subst hx
    go_enter Tryz.func17, Tryz.ntmps17
    go_wp2_with fail
    refine (KC _).mono ?_
    rintro _ w1 ⟨rfl, B1⟩
    obtain ⟨⟨x0, x1, x2, x3, x4, x5⟩, F1⟩ := LA _ _ B1
    simp only at x0 x1 x2 x3 x4 x5
    clear B1 LA KC
    go_wp2
    go_ret
    exact ⟨rfl, F1⟩
set_option maxRecDepth 100000 in
set_option maxHeartbeats 1000000 in
theorem lstripe_any {w : World} {g : GeoS} (hg : g.Wf) {i : Int} (hi : (Lit.int .i64 i).wf = true) {x : Int} (hx : stG g i = x) : Calls Tryz.prog 23 #[aggG g, .int .i64 i] w fun e w' => e = .returned (.int .i64 x) ∧ Below w.heap.size w w' := by
  obtain ⟨k, m, z, s, t, o⟩ := g
  have LA := geo_laid w ⟨k, m, z, s, t, o⟩
  rw [show aggG ⟨k, m, z, s, t, o⟩ = .agg #[.int .i64 k, .int .i64 m, .int .i64 z, .int .i64 s, .int .i64 t, .int .i64 o] from rfl]
  have bk := bounds_i64 hg.k
  have bm := bounds_i64 hg.m
  simp only at bk bm
  have KC := fun W => @lcheck_any W ⟨k, m, z, s, t, o⟩ hg _ rfl
  rw [show aggG ⟨k, m, z, s, t, o⟩ = .agg #[.int .i64 k, .int .i64 m, .int .i64 z, .int .i64 s, .int .i64 t, .int .i64 o] from rfl] at KC
  have KI := fun W => @lis_any W i s _ rfl
  by_cases h0 : okG ⟨k, m, z, s, t, o⟩
  · rw [show chG ⟨k, m, z, s, t, o⟩ = 0 from if_pos h0] at KC
    by_cases h1 : 0 ≤ i ∧ i < s
    · rw [show stG ⟨k, m, z, s, t, o⟩ i = 5 + t + i from if_pos ⟨h0, h1⟩] at hx
      rw [decide_eq_true h1] at KI
      obtain ⟨o1, o2, o3, o4, o5, o6, o7, o8, o9, o10, o11⟩ := h0
      simp only at o1 o2 o3 o4 o5 o6 o7 o8 o9 o10 o11
      subst hx
      go_enter Tryz.func23, Tryz.ntmps23
      go_wp2_with fail
      refine (KC _).mono ?_
      rintro _ w1 ⟨rfl, B1⟩
      obtain ⟨⟨x0, x1, x2, x3, x4, x5⟩, F1⟩ := LA _ _ B1
      simp only at x0 x1 x2 x3 x4 x5
      clear B1 LA KC
      go_wp2_with fail
      refine (KI _).mono ?_
      rintro _ wq ⟨rfl, hwq⟩
      rw [hwq]
      clear hwq wq
      go_wp2_with fail
      refine (beh3 _ (by omega) (by omega) (by omega) rfl).mono ?_
      rintro _ w2 ⟨rfl, B2⟩
      have F2 := F1.stepL B2 F1.size
      clear B2 F1 x0 x1 x2 x3 x4 x5
      go_wp2
      go_ret
      exact ⟨rfl, F2⟩
    · rw [show stG ⟨k, m, z, s, t, o⟩ i = 0 from if_neg (fun h => h1 h.2)] at hx
      rw [decide_eq_false h1] at KI
      subst hx
      go_enter Tryz.func23, Tryz.ntmps23
      go_wp2_with fail
      refine (KC _).mono ?_
      rintro _ w1 ⟨rfl, B1⟩
      obtain ⟨⟨x0, x1, x2, x3, x4, x5⟩, F1⟩ := LA _ _ B1
      simp only at x0 x1 x2 x3 x4 x5
      clear B1 LA KC
      go_wp2_with fail
      refine (KI _).mono ?_
      rintro _ wq ⟨rfl, hwq⟩
      rw [hwq]
      clear hwq wq
      go_wp2
      go_ret
      exact ⟨rfl, F1⟩
  · rw [show chG ⟨k, m, z, s, t, o⟩ = 50 from if_neg h0] at KC
    rw [show stG ⟨k, m, z, s, t, o⟩ i = 0 from if_neg (fun h => h0 h.1)] at hx
    subst hx
    go_enter Tryz.func23, Tryz.ntmps23
    go_wp2_with fail
    refine (KC _).mono ?_
    rintro _ w1 ⟨rfl, B1⟩
    obtain ⟨⟨x0, x1, x2, x3, x4, x5⟩, F1⟩ := LA _ _ B1
    simp only at x0 x1 x2 x3 x4 x5
    clear B1 LA KC
    go_wp2
    go_ret
    exact ⟨rfl, F1⟩
end Go.Proofs.YtddnfhfangfgeaaGreat.Gf

namespace Go.Proofs.YtddnfhfangfgeaaGreat.Gf
set_option linter.unusedVariables false
set_option linter.unusedSimpArgs false
open Go.RowKit
set_option maxRecDepth 100000 in
set_option maxHeartbeats 1000000 in
theorem ldisk_any {w : World} {g : GeoS} (hg : g.Wf) {st sh : Int} (hst : (Lit.int .i64 st).wf = true) (hsh : (Lit.int .i64 sh).wf = true) {x : Int} (hx : diG g st sh = x) : Calls Tryz.prog 127 #[aggG g, .int .i64 st, .int .i64 sh] w fun e w' => e = .returned (.int .i64 x) ∧ Below w.heap.size w w' := by
  obtain ⟨k, m, z, s, t, o⟩ := g
  have LA := geo_laid w ⟨k, m, z, s, t, o⟩
  rw [show aggG ⟨k, m, z, s, t, o⟩ = .agg #[.int .i64 k, .int .i64 m, .int .i64 z, .int .i64 s, .int .i64 t, .int .i64 o] from rfl]
  have bk := bounds_i64 hg.k
  have bm := bounds_i64 hg.m
  simp only at bk bm
  have KC := fun W => @lcheck_any W ⟨k, m, z, s, t, o⟩ hg _ rfl
  rw [show aggG ⟨k, m, z, s, t, o⟩ = .agg #[.int .i64 k, .int .i64 m, .int .i64 z, .int .i64 s, .int .i64 t, .int .i64 o] from rfl] at KC
  have KD := fun W => @ldisks_any W ⟨k, m, z, s, t, o⟩ _ rfl
  simp only at KD
  rw [show aggG ⟨k, m, z, s, t, o⟩ = .agg #[.int .i64 k, .int .i64 m, .int .i64 z, .int .i64 s, .int .i64 t, .int .i64 o] from rfl] at KD
  have KA := fun W => @lis_any W st s _ rfl
  have KI := fun W => @lis_any W sh (k + m) _ rfl
  by_cases h0 : okG ⟨k, m, z, s, t, o⟩
  · rw [show chG ⟨k, m, z, s, t, o⟩ = 0 from if_pos h0] at KC
    have hok := h0
    obtain ⟨o1, o2, o3, o4, o5, o6, o7, o8, o9, o10, o11⟩ := h0
    simp only at o1 o2 o3 o4 o5 o6 o7 o8 o9 o10 o11
    have gk : IntKind.i64.wrap (k + m) = k + m := by rw [IntKind.wrap_i64]; omega
    rw [gk] at KD
    by_cases h1 : 0 ≤ st ∧ st < s
    · rw [decide_eq_true h1] at KA
      by_cases h2 : 0 ≤ sh ∧ sh < k + m
      · rw [show diG ⟨k, m, z, s, t, o⟩ st sh = (sh + st) % (k + m) from if_pos ⟨⟨hok, h1⟩, h2⟩] at hx
        rw [decide_eq_true h2] at KI
        obtain ⟨n, hn⟩ : ∃ n, Hid (n = k + m) := ⟨_, rfl⟩
        rw [← hn.out] at KD KI hx o3 h2
        have o1' : 1 ≤ n := by rw [hn.out]; omega
        have g2 : IntKind.i64.wrap (sh + st) = sh + st := by rw [IntKind.wrap_i64]; omega
        have nz : ¬ n = 0 := by omega
        have nz' : (n == 0) = false := beq_eq_false_iff_ne.2 nz
        have tm : (sh + st).tmod n = (sh + st) % n := Int.tmod_eq_emod_of_nonneg (by omega)
        have gm : IntKind.i64.wrap ((sh + st) % n) = (sh + st) % n := by
          have e1 := Int.emod_nonneg (sh + st) nz
          have e2 := Int.emod_lt_of_pos (sh + st) (show 0 < n by omega)
          rw [IntKind.wrap_i64]; omega
        subst hx
        go_enter Tryz.func127, Tryz.ntmps127
        go_wp2_with fail
        refine (KC _).mono ?_
        rintro _ w1 ⟨rfl, B1⟩
        obtain ⟨⟨x0, x1, x2, x3, x4, x5⟩, F1⟩ := LA _ _ B1
        simp only at x0 x1 x2 x3 x4 x5
        have C1 := B1
        clear B1 KC
        go_wp2_with fail
        refine (KA _).mono ?_
        rintro _ wq ⟨rfl, hwq⟩
        rw [hwq]
        clear hwq wq
        go_wp2_with fail
        refine (KD _).mono ?_
        rintro _ w2 ⟨rfl, B2⟩
        have C2 := C1.stepL B2 C1.size
        clear x0 x1 x2 x3 x4 x5 B2 C1
        obtain ⟨⟨x0, x1, x2, x3, x4, x5⟩, F2⟩ := LA _ _ C2
        simp only at x0 x1 x2 x3 x4 x5
        go_wp2_with fail
        refine (KI _).mono ?_
        rintro _ wq ⟨rfl, hwq⟩
        rw [hwq]
        clear hwq wq
        go_wp2_with fail
        refine (KD _).mono ?_
        rintro _ w3 ⟨rfl, B3⟩
        have C3 := C2.stepL B3 C2.size
        clear x0 x1 x2 x3 x4 x5 B3 C2
        obtain ⟨⟨x0, x1, x2, x3, x4, x5⟩, F3⟩ := LA _ _ C3
        simp only at x0 x1 x2 x3 x4 x5
        clear LA C3
        go_wp2
        go_ret
        exact ⟨rfl, F3⟩
      · rw [show diG ⟨k, m, z, s, t, o⟩ st sh = 0 from if_neg (fun h => h2 h.2)] at hx
        rw [decide_eq_false h2] at KI
        subst hx
        go_enter Tryz.func127, Tryz.ntmps127
        go_wp2_with fail
        refine (KC _).mono ?_
        rintro _ w1 ⟨rfl, B1⟩
        obtain ⟨⟨x0, x1, x2, x3, x4, x5⟩, F1⟩ := LA _ _ B1
        simp only at x0 x1 x2 x3 x4 x5
        have C1 := B1
        clear B1 KC
        go_wp2_with fail
        refine (KA _).mono ?_
        rintro _ wq ⟨rfl, hwq⟩
        rw [hwq]
        clear hwq wq
        go_wp2_with fail
        refine (KD _).mono ?_
        rintro _ w2 ⟨rfl, B2⟩
        have C2 := C1.stepL B2 C1.size
        clear x0 x1 x2 x3 x4 x5 B2 C1
        obtain ⟨⟨x0, x1, x2, x3, x4, x5⟩, F2⟩ := LA _ _ C2
        simp only at x0 x1 x2 x3 x4 x5
        go_wp2_with fail
        refine (KI _).mono ?_
        rintro _ wq ⟨rfl, hwq⟩
        rw [hwq]
        clear hwq wq
        clear LA C2
        go_wp2
        go_ret
        exact ⟨rfl, F2⟩
    · rw [show diG ⟨k, m, z, s, t, o⟩ st sh = 0 from if_neg (fun h => h1 h.1.2)] at hx
      rw [decide_eq_false h1] at KA
      subst hx
      go_enter Tryz.func127, Tryz.ntmps127
      go_wp2_with fail
      refine (KC _).mono ?_
      rintro _ w1 ⟨rfl, B1⟩
      obtain ⟨⟨x0, x1, x2, x3, x4, x5⟩, F1⟩ := LA _ _ B1
      simp only at x0 x1 x2 x3 x4 x5
      have C1 := B1
      clear B1 KC
      go_wp2_with fail
      refine (KA _).mono ?_
      rintro _ wq ⟨rfl, hwq⟩
      rw [hwq]
      clear hwq wq
      clear LA C1
      go_wp2
      go_ret
      exact ⟨rfl, F1⟩
  · rw [show chG ⟨k, m, z, s, t, o⟩ = 50 from if_neg h0] at KC
    rw [show diG ⟨k, m, z, s, t, o⟩ st sh = 0 from if_neg (fun h => h0 h.1.1)] at hx
    subst hx
    go_enter Tryz.func127, Tryz.ntmps127
    go_wp2_with fail
    refine (KC _).mono ?_
    rintro _ w1 ⟨rfl, B1⟩
    obtain ⟨⟨x0, x1, x2, x3, x4, x5⟩, F1⟩ := LA _ _ B1
    simp only at x0 x1 x2 x3 x4 x5
    clear B1 LA KC
    go_wp2
    go_ret
    exact ⟨rfl, F1⟩
end Go.Proofs.YtddnfhfangfgeaaGreat.Gf

namespace Go.Proofs.YtddnfhfangfgeaaGreat.Gf
set_option linter.unusedVariables false
set_option linter.unusedSimpArgs false
open Go.RowKit
section
variable {w : World} {pa pf : Option Addr} {g : GeoS} {st ep : Int}
set_option maxRecDepth 100000 in
set_option maxHeartbeats 1000000 in
theorem piss_any {x : Bool} (hx : decide (0 ≤ st ∧ st < g.s) = x) : Calls Tryz.prog 50 #[aggP pa pf g st ep] w fun e w' => e = .returned (.bool x) ∧ Below w.heap.size w w' := by
  subst hx
  obtain ⟨k, m, z, s, t, o⟩ := g
  have L0 := (spot_new w pa pf ⟨k, m, z, s, t, o⟩ st ep 103).all
  simp only [cellsP] at L0
  obtain ⟨x0, x1, x2, x3, x4, x5, x6, x7, x8, x9⟩ := L0
  have F0 := belL w (.cells (cellsP pa pf ⟨k, m, z, s, t, o⟩ st ep) 103)
  simp only [cellsP] at F0
  unfold aggP
  simp only [cellsP]
  by_cases h1 : 0 ≤ st
  · by_cases h2 : st < s
    · rw [decide_eq_true ⟨h1, h2⟩]
      have h1' : st ≥ 0 := h1
      go_enter Tryz.func50, Tryz.ntmps50
      go_wp2
      go_ret
      exact ⟨rfl, F0⟩
    · rw [decide_eq_false (fun q => h2 q.2)]
      have h1' : st ≥ 0 := h1
      go_enter Tryz.func50, Tryz.ntmps50
      go_wp2
      go_ret
      exact ⟨rfl, F0⟩
  · rw [decide_eq_false (fun q => h1 q.1)]
    have h1' : ¬ st ≥ 0 := h1
    go_enter Tryz.func50, Tryz.ntmps50
    go_wp2
    go_ret
    exact ⟨rfl, F0⟩
set_option maxRecDepth 100000 in
set_option maxHeartbeats 1000000 in
theorem pise_any {x : Bool} (hx : decide (0 ≤ ep ∧ ep ≤ 2147483647) = x) : Calls Tryz.prog 51 #[aggP pa pf g st ep] w fun e w' => e = .returned (.bool x) ∧ Below w.heap.size w w' := by
  subst hx
  obtain ⟨k, m, z, s, t, o⟩ := g
  have L0 := (spot_new w pa pf ⟨k, m, z, s, t, o⟩ st ep 103).all
  simp only [cellsP] at L0
  obtain ⟨x0, x1, x2, x3, x4, x5, x6, x7, x8, x9⟩ := L0
  have F0 := belL w (.cells (cellsP pa pf ⟨k, m, z, s, t, o⟩ st ep) 103)
  simp only [cellsP] at F0
  unfold aggP
  simp only [cellsP]
  by_cases h1 : 0 ≤ ep
  · by_cases h2 : ep ≤ 2147483647
    · rw [decide_eq_true ⟨h1, h2⟩]
      have h1' : ep ≥ 0 := h1
      go_enter Tryz.func51, Tryz.ntmps51
      go_wp2
      go_ret
      exact ⟨rfl, F0⟩
    · rw [decide_eq_false (fun q => h2 q.2)]
      have h1' : ep ≥ 0 := h1
      go_enter Tryz.func51, Tryz.ntmps51
      go_wp2
      go_ret
      exact ⟨rfl, F0⟩
  · rw [decide_eq_false (fun q => h1 q.1)]
    have h1' : ¬ ep ≥ 0 := h1
    go_enter Tryz.func51, Tryz.ntmps51
    go_wp2
    go_ret
    exact ⟨rfl, F0⟩
set_option maxRecDepth 100000 in
set_option maxHeartbeats 1000000 in
theorem pcount_any {x : Int} (hx : IntKind.i64.wrap (g.k + g.m) = x) : Calls Tryz.prog 55 #[aggP pa pf g st ep] w fun e w' => e = .returned (.int .i64 x) ∧ Below w.heap.size w w' := by
  obtain ⟨k, m, z, s, t, o⟩ := g
  simp only at hx
  have L0 := (spot_new w pa pf ⟨k, m, z, s, t, o⟩ st ep 103).all
  simp only [cellsP] at L0
  obtain ⟨x0, x1, x2, x3, x4, x5, x6, x7, x8, x9⟩ := L0
  have F0 := belL w (.cells (cellsP pa pf ⟨k, m, z, s, t, o⟩ st ep) 103)
  simp only [cellsP] at F0
  unfold aggP
  simp only [cellsP]
  go_enter Tryz.func55, Tryz.ntmps55
  go_wp2
  go_ret
  exact ⟨rfl, F0⟩
set_option maxRecDepth 100000 in
set_option maxHeartbeats 1000000 in
theorem pplace_any (hg : g.Wf) (hst : (Lit.int .i64 st).wf = true) {x : Int} (hx : stG g st = x) : Calls Tryz.prog 86 #[aggP pa pf g st ep] w fun e w' => e = .returned (.int .i64 x) ∧ Below w.heap.size w w' := by
  have K := fun W => @lstripe_any W g hg st hst x hx
  clear hx
  obtain ⟨k, m, z, s, t, o⟩ := g
  rw [show aggG ⟨k, m, z, s, t, o⟩ = .agg #[.int .i64 k, .int .i64 m, .int .i64 z, .int .i64 s, .int .i64 t, .int .i64 o] from rfl] at K
  have L0 := (spot_new w pa pf ⟨k, m, z, s, t, o⟩ st ep 103).all
  simp only [cellsP] at L0
  obtain ⟨x0, x1, x2, x3, x4, x5, x6, x7, x8, x9⟩ := L0
  have F0 := belL w (.cells (cellsP pa pf ⟨k, m, z, s, t, o⟩ st ep) 103)
  simp only [cellsP] at F0
  unfold aggP
  simp only [cellsP]
  go_enter Tryz.func86, Tryz.ntmps86
  go_wp2_with fail
  refine (K _).mono ?_
  rintro _ w1 ⟨rfl, B1⟩
  have F1 := F0.stepL B1 F0.size
  clear K B1 F0 x0 x1 x2 x3 x4 x5 x6 x7 x8 x9
  go_wp2
  go_ret
  exact ⟨rfl, F1⟩
set_option maxRecDepth 100000 in
set_option maxHeartbeats 1000000 in
theorem pdisk_any (hg : g.Wf) (hst : (Lit.int .i64 st).wf = true) {sh : Int} (hsh : (Lit.int .i64 sh).wf = true) {x : Int} (hx : diG g st sh = x) : Calls Tryz.prog 87 #[aggP pa pf g st ep, .int .i64 sh] w fun e w' => e = .returned (.int .i64 x) ∧ Below w.heap.size w w' := by
  have K := fun W => @ldisk_any W g hg st sh hst hsh x hx
  clear hx
  obtain ⟨k, m, z, s, t, o⟩ := g
  rw [show aggG ⟨k, m, z, s, t, o⟩ = .agg #[.int .i64 k, .int .i64 m, .int .i64 z, .int .i64 s, .int .i64 t, .int .i64 o] from rfl] at K
  have L0 := (spot_new w pa pf ⟨k, m, z, s, t, o⟩ st ep 103).all
  simp only [cellsP] at L0
  obtain ⟨x0, x1, x2, x3, x4, x5, x6, x7, x8, x9⟩ := L0
  have F0 := belL w (.cells (cellsP pa pf ⟨k, m, z, s, t, o⟩ st ep) 103)
  simp only [cellsP] at F0
  unfold aggP
  simp only [cellsP]
  go_enter Tryz.func87, Tryz.ntmps87
  go_wp2_with fail
  refine (K _).mono ?_
  rintro _ w1 ⟨rfl, B1⟩
  have F1 := F0.stepL B1 F0.size
  clear K B1 F0 x0 x1 x2 x3 x4 x5 x6 x7 x8 x9
  go_wp2
  go_ret
  exact ⟨rfl, F1⟩
end
/-- where the first false one stands -/
def IdxB (w : World) (bs : List Bool) (e : Ending) (w' : World) : Prop := ∃ z : Int, e = .returned (.int .i64 z) ∧ (0 ≤ z ↔ false ∈ bs) ∧ w' = w
set_option maxRecDepth 100000 in
set_option maxHeartbeats 1000000 in
theorem idxb_any {w : World} {v : Value} {bs : List Bool} (h : RdB w v bs) (hl : bs.length ≤ 1000) : Calls Tryz.prog 123 #[v, .bool false] w (IdxB w bs) := by
  obtain ⟨a, c, rfl⟩ := h.form
  have H : Hid (RdB w (.slice a bs.length c) bs) := h
  clear h
  go_enter Tryz.func123, Tryz.ntmps123
  go_wp2
  go_loopw [8] (fun i wr => ∃ r : Nat, r ≤ bs.length ∧ i = .int .i64 (r : Int) ∧ wr = w ∧ ∀ j, j < r → hb bs j = true) (fun i _ => bs.length - (intOf i).toNat)
  case atStart => exact ⟨0, Nat.zero_le _, rfl, rfl, fun j hj => absurd hj (Nat.not_lt_zero _)⟩
  case round =>
    obtain ⟨r, hr, rfl, rfl, hall⟩ := hrel
    by_cases hlt : r < bs.length
    · have hlt' : (r : Int) < (bs.length : Int) := by omega
      have g1 : IntKind.i64.wrap ((r : Int) + 1) = ((r + 1 : Nat) : Int) := by rw [IntKind.wrap_i64]; omega
      obtain ⟨b, off, rfl, _, cx⟩ := H.out.at hlt
      cases hx : hb bs r with
      | false =>
        rw [hx] at cx
        have E : Hid (false ∈ bs) := by
          show _ ∈ _
          rw [← hx]
          unfold hb
          rw [show bs.getD r false = bs[r] by simp [List.getD, hlt]]
          exact List.getElem_mem hlt
        clear hall hx
        go_wp2
        go_ret
        exact ⟨_, rfl, ⟨fun _ => E.out, fun _ => by omega⟩, rfl⟩
      | true =>
        rw [hx] at cx
        have E : Hid (∀ j, j < r + 1 → hb bs j = true) := fun j hj => by
          by_cases e : j = r
          · rw [e]; exact hx
          · exact hall j (by omega)
        clear hall hx
        go_wp2
        go_roundw
        case rel => exact ⟨r + 1, by omega, by go_num, by first | rfl | trivial, E.out⟩
        case measure => simp [intOf]; omega
    · obtain rfl : r = bs.length := by omega
      have hlt' : ¬ (bs.length : Int) < (bs.length : Int) := by omega
      have E : Hid (¬ false ∈ bs) := fun hm => by
        obtain ⟨j, hj, e⟩ := List.getElem_of_mem hm
        have := hall j hj
        unfold hb at this
        rw [show bs.getD j false = bs[j] by simp [List.getD, hj], e] at this
        cases this
      clear hall
      go_wp2
      go_ret
      exact ⟨_, rfl, ⟨fun h => by omega, fun h => absurd h E.out⟩, rfl⟩
set_option maxRecDepth 100000 in
theorem contb_any {w : World} {v : Value} {bs : List Bool} (h : RdB w v bs) (hl : bs.length ≤ 1000) : Calls Tryz.prog 84 #[v, .bool false] w fun e w' => e = .returned (.bool (decide (false ∈ bs))) ∧ w' = w := by
  have K := idxb_any h hl
  obtain ⟨a, c, rfl⟩ := h.form
  clear h
  by_cases hm : false ∈ bs
  · rw [decide_eq_true hm]
    go_enter Tryz.func84, Tryz.ntmps84
    go_wp2_with fail
    refine K.mono ?_
    rintro _ wq ⟨z, rfl, hz, hwq⟩
    rw [hwq]
    have z1 : z ≥ 0 := hz.2 hm
    clear hwq wq K hz hm
    go_wp2
    go_ret
    exact ⟨rfl, rfl⟩
  · rw [decide_eq_false hm]
    go_enter Tryz.func84, Tryz.ntmps84
    go_wp2_with fail
    refine K.mono ?_
    rintro _ wq ⟨z, rfl, hz, hwq⟩
    rw [hwq]
    have z1 : z < 0 := by
      by_cases q : 0 ≤ z
      · exact absurd (hz.1 q) hm
      · omega
    have z2 : ¬ 0 ≤ z := by omega
    have z3 : decide (0 ≤ z) = false := decide_eq_false z2
    clear hwq wq K hz hm
    go_wp2
    go_ret
    exact ⟨rfl, rfl⟩
/-- what keeps a call from being done -/
def rfX (g : GeoS) (bs : List Bool) : Int := if okG g then (if false ∈ bs then 1 else 0) else 50
section
variable {w : World} {g : GeoS} {st ep : Int}
set_option maxRecDepth 100000 in
set_option maxHeartbeats 1000000 in
theorem pref_none {pa pf : Option Addr} (hn : pa = none ∨ pf = none) {a : Option Addr} {n c : Nat} : Calls Tryz.prog 49 #[aggP pa pf g st ep, .slice a n c] w fun e w' => e = .returned (.int .i64 1) ∧ Below w.heap.size w w' := by
  obtain ⟨k, m, z, s, t, o⟩ := g
  have L0 := (spot_new w pa pf ⟨k, m, z, s, t, o⟩ st ep 103).all
  simp only [cellsP] at L0
  obtain ⟨x0, x1, x2, x3, x4, x5, x6, x7, x8, x9⟩ := L0
  have F0 := belL w (.cells (cellsP pa pf ⟨k, m, z, s, t, o⟩ st ep) 103)
  simp only [cellsP] at F0
  unfold aggP
  simp only [cellsP]
  cases pa with
  | none =>
    go_enter Tryz.func49, Tryz.ntmps49
    go_wp2
    go_ret
    exact ⟨rfl, F0⟩
  | some A =>
    have e : pf = none := hn.resolve_left (by simp)
    subst e
    go_enter Tryz.func49, Tryz.ntmps49
    go_wp2
    go_ret
    exact ⟨rfl, F0⟩
set_option maxRecDepth 100000 in
set_option maxHeartbeats 1000000 in
theorem pref_any {ab fb : Nat} (hg : g.Wf) {v : Value} {bs : List Bool} (hb : RdB w v bs) (hl : bs.length ≤ 1000) {x : Int} (hx : rfX g bs = x) : Calls Tryz.prog 49 #[aggP (some ⟨ab, 0, none⟩) (some ⟨fb, 0, none⟩) g st ep, v] w fun e w' => e = .returned (.int .i64 x) ∧ Below w.heap.size w w' := by
  have KC := fun W => @lcheck_any W g hg _ rfl
  have KK := fun W (h : RdB W v bs) => contb_any h hl
  by_cases ok : okG g
  · have ec : chG g = 0 := if_pos ok
    rw [ec] at KC
    have ex : rfX g bs = if false ∈ bs then 1 else 0 := if_pos ok
    rw [ex] at hx
    clear ec ex ok
    obtain ⟨k, m, z, s, t, o⟩ := g
    rw [show aggG ⟨k, m, z, s, t, o⟩ = .agg #[.int .i64 k, .int .i64 m, .int .i64 z, .int .i64 s, .int .i64 t, .int .i64 o] from rfl] at KC
    have L0 := (spot_new w (some ⟨ab, 0, none⟩) (some ⟨fb, 0, none⟩) ⟨k, m, z, s, t, o⟩ st ep 103).all
    simp only [cellsP] at L0
    obtain ⟨x0, x1, x2, x3, x4, x5, x6, x7, x8, x9⟩ := L0
    have F0 := belL w (.cells (cellsP (some ⟨ab, 0, none⟩) (some ⟨fb, 0, none⟩) ⟨k, m, z, s, t, o⟩ st ep) 103)
    simp only [cellsP] at F0
    unfold aggP
    simp only [cellsP]
    obtain ⟨va, vc, rfl⟩ := hb.form
    by_cases hm : false ∈ bs
    · rw [decide_eq_true hm] at KK
      rw [if_pos hm] at hx
      subst hx
      clear hm
      go_enter Tryz.func49, Tryz.ntmps49
      go_wp2_with fail
      refine (KC _).mono ?_
      rintro _ w1 ⟨rfl, B1⟩
      have F1 := F0.stepL B1 F0.size
      have K1 := KK _ (hb.below F1)
      clear KC KK B1 F0 x0 x1 x2 x3 x4 x5 x6 x7 x8 x9
      go_wp2_with fail
      refine K1.mono ?_
      rintro _ wq ⟨rfl, hwq⟩
      rw [hwq]
      clear hwq wq K1
      go_wp2
      go_ret
      exact ⟨rfl, F1⟩
    · rw [decide_eq_false hm] at KK
      rw [if_neg hm] at hx
      subst hx
      clear hm
      go_enter Tryz.func49, Tryz.ntmps49
      go_wp2_with fail
      refine (KC _).mono ?_
      rintro _ w1 ⟨rfl, B1⟩
      have F1 := F0.stepL B1 F0.size
      have K1 := KK _ (hb.below F1)
      clear KC KK B1 F0 x0 x1 x2 x3 x4 x5 x6 x7 x8 x9
      go_wp2_with fail
      refine K1.mono ?_
      rintro _ wq ⟨rfl, hwq⟩
      rw [hwq]
      clear hwq wq K1
      go_wp2
      go_ret
      exact ⟨rfl, F1⟩
  · have ec : chG g = 50 := if_neg ok
    rw [ec] at KC
    have ex : rfX g bs = 50 := if_neg ok
    rw [ex] at hx
    subst hx
    clear ec ex ok KK
    obtain ⟨k, m, z, s, t, o⟩ := g
    rw [show aggG ⟨k, m, z, s, t, o⟩ = .agg #[.int .i64 k, .int .i64 m, .int .i64 z, .int .i64 s, .int .i64 t, .int .i64 o] from rfl] at KC
    have L0 := (spot_new w (some ⟨ab, 0, none⟩) (some ⟨fb, 0, none⟩) ⟨k, m, z, s, t, o⟩ st ep 103).all
    simp only [cellsP] at L0
    obtain ⟨x0, x1, x2, x3, x4, x5, x6, x7, x8, x9⟩ := L0
    have F0 := belL w (.cells (cellsP (some ⟨ab, 0, none⟩) (some ⟨fb, 0, none⟩) ⟨k, m, z, s, t, o⟩ st ep) 103)
    simp only [cellsP] at F0
    unfold aggP
    simp only [cellsP]
    obtain ⟨va, vc, rfl⟩ := hb.form
    go_enter Tryz.func49, Tryz.ntmps49
    go_wp2_with fail
    refine (KC _).mono ?_
    rintro _ w1 ⟨rfl, B1⟩
    have F1 := F0.stepL B1 F0.size
    clear KC B1 F0 x0 x1 x2 x3 x4 x5 x6 x7 x8 x9
    go_wp2
    go_ret
    exact ⟨rfl, F1⟩
end
end Go.Proofs.YtddnfhfangfgeaaGreat.Gf

namespace Go.Proofs.YtddnfhfangfgeaaGreat.Gf
set_option linter.unusedVariables false
set_option linter.unusedSimpArgs false
open Go.RowKit
def FarV (w : World) (v : Value) : Prop := ∀ x n c, v = .slice (some x) n c → n = 0 ∨ w.heap.size ≤ x.block
theorem FarV.own {w w' : World} {e n : Nat} {v : Value} {xs : List Value} (h : w'.ownsRow w.heap.size e 1 v n xs) : FarV w v := fun x n' c e2 => by
  obtain ⟨_, ⟨hv, hn⟩ | ⟨g, cap, cur, hv, hg, _⟩⟩ := h
  · rw [hv] at e2; cases e2
  · rw [hv] at e2
    simp at e2
    obtain ⟨rfl, _⟩ := e2
    exact Or.inr hg
theorem FarV.nil (w : World) (a : Option Addr) (c : Nat) : FarV w (.slice a 0 c) := fun x n c' e => by simp at e; exact Or.inl e.2.1.symm
theorem FarV.apart {w : World} {v : Value} {G : Nat → Prop} (h : FarV w v) (hG : ∀ k, G k → k < w.heap.size) : ApartG G v := fun x n c e => (h x n c e).imp id fun q hg => by have := hG _ hg; omega
end Go.Proofs.YtddnfhfangfgeaaGreat.Gf

namespace Go.Proofs.YtddnfhfangfgeaaGreat.Gf
set_option linter.unusedVariables false
set_option linter.unusedSimpArgs false
open Go.RowKit
/-- shards in new memory, places, an error -/
def MakesA15 (w : World) (X : Int) (R : List (List UInt8)) (B : List Nat) (e : Ending) (w' : World) : Prop := ∃ va vb, e = .returned (.tuple #[va, vb, .int .i64 X]) ∧ FarL w' w.heap.size va R ∧ OwnI w' w.heap.size 3 vb B ∧ Below w.heap.size w w'
theorem nilA15 {w w' : World} {x : Int} (b : Below w.heap.size w w') {X : Int} {R : List (List UInt8)} {B : List Nat} (h : X = x ∧ R = [] ∧ B = []) : MakesA15 w X R B (.returned (.tuple #[.slice none 0 0, .slice none 0 0, .int .i64 x])) w' := by
  obtain ⟨rfl, rfl, rfl⟩ := h
  exact ⟨_, _, rfl, FarL.nil _ _, OwnI.nil _ _ _, b⟩
/-- .. the data in new memory -/
def MakesL15 (w : World) (X : Int) (D : List UInt8) (B : List Nat) (e : Ending) (w' : World) : Prop := ∃ vd vb, e = .returned (.tuple #[vd, vb, .int .i64 X]) ∧ w'.ownsRow w.heap.size 5 1 vd D.length (D.map Gf.vb) ∧ OwnI w' w.heap.size 3 vb B ∧ Below w.heap.size w w'
structure TwoL (w : World) (gs gh n : Nat) (V : Nat → Value) (L : Nat → List UInt8) (H : Nat → Bool) : Prop where
  rs : w.rowIs gs 36 n V
  rh : w.rowIs gh 4 n (fun i => .bool (H i))
  each : ∀ i, i < n → Rd w (V i) (L i)
  as_ : ∀ i, i < n → Apart gs (V i)
  ah : ∀ i, i < n → Apart gh (V i)
  ne : gs ≠ gh
  n1 : n ≤ 1000
section
variable {w w' : World} {gs gh n : Nat} {V : Nat → Value} {L : Nat → List UInt8} {H : Nat → Bool}
theorem TwoL.below (h : TwoL w gs gh n V L H) (hb : Below w.heap.size w w') : TwoL w' gs gh n V L H :=
  ⟨h.rs.of_block (hb.block gs h.rs.lt), h.rh.of_block (hb.block gh h.rh.lt), fun i hi => (h.each i hi).below hb, h.as_, h.ah, h.ne, h.n1⟩
theorem TwoL.congr {L' : Nat → List UInt8} {H' : Nat → Bool} (h : TwoL w gs gh n V L H) (eL : ∀ i, i < n → L i = L' i) (eH : ∀ i, i < n → H i = H' i) : TwoL w gs gh n V L' H' :=
  ⟨h.rs, h.rh.congr fun i hi => by rw [eH i hi], fun i hi => by rw [← eL i hi]; exact h.each i hi, h.as_, h.ah, h.ne, h.n1⟩
theorem TwoL.made (h1 : w.rowIs gs 36 n (fun _ => .slice none 0 0)) (h2 : w.rowIs gh 4 n (fun _ => .bool false)) (hne : gs ≠ gh) (hn : n ≤ 1000) : TwoL w gs gh n (fun _ => .slice none 0 0) (fun _ => []) (fun _ => false) :=
  ⟨h1, h2, fun _ _ => Or.inl ⟨none, 0, rfl, rfl, Nat.zero_le _, fun _ => rfl⟩, fun _ _ x n c e => by simp at e, fun _ _ x n c e => by simp at e, hne, hn⟩
theorem FarV.apartB {v : Value} {k : Nat} (h : FarV w v) (hk : k < w.heap.size) : Apart k v := fun x n c e => (h x n c e).imp id fun q hq => by rw [hq] at q; omega
/-- a slice is laid at its place -/
theorem TwoL.putS (h : TwoL w gs gh n V L H) {x : Value} {p : List UInt8} (hx : Rd w x p) (hs : Apart gs x) (hh : Apart gh x) (r : Nat) : TwoL (w.setCell ⟨gs, r, none⟩ x) gs gh n (fun i => if i = r then x else V i) (fun i => if i = r then p else L i) H := by
  have O : Only gs w (w.setCell ⟨gs, r, none⟩ x) := (Only.refl gs w).setCell r x
  refine ⟨h.rs.set r x, h.rh.of_block (O.block gh (fun e => h.ne e.symm)), fun i hi => ?_, fun i hi => ?_, fun i hi => ?_, h.ne, h.n1⟩
  · show Rd _ (if i = r then x else V i) (if i = r then p else L i)
    split
    · exact hx.only hs O
    · exact (h.each i hi).only (h.as_ i hi) O
  · show Apart gs (if i = r then x else V i)
    split
    · exact hs
    · exact h.as_ i hi
  · show Apart gh (if i = r then x else V i)
    split
    · exact hh
    · exact h.ah i hi
/-- a bool is laid at its place -/
theorem TwoL.putB (h : TwoL w gs gh n V L H) (r : Nat) (b : Bool) : TwoL (w.setCell ⟨gh, r, none⟩ (.bool b)) gs gh n V L (fun i => if i = r then b else H i) := by
  have O : Only gh w (w.setCell ⟨gh, r, none⟩ (.bool b)) := (Only.refl gh w).setCell r (.bool b)
  refine ⟨h.rs.of_block (O.block gs h.ne), (h.rh.set r (.bool b)).congr fun i hi => ?_, fun i hi => (h.each i hi).only (h.ah i hi) O, h.as_, h.ah, h.ne, h.n1⟩
  by_cases e : i = r
  · simp [e]
  · simp [e]
theorem TwoL.rsOf (h : TwoL w gs gh n V L H) : Rs w (.slice (some ⟨gs, 0, none⟩) n n) (mkL n L) := by
  have hl : (mkL n L).length = n := mkL_length _ _
  refine ⟨some ⟨gs, 0, none⟩, n, by rw [hl], by rw [hl]; exact Nat.le_refl _, by unfold maxLen; have := h.n1; omega, nofun, fun i hi => ?_⟩
  rw [hl] at hi
  exact ⟨gs, 0, V i, rfl, h.rs.lt, by rw [Nat.zero_add]; exact h.rs.cell hi, by rw [ro_mkL hi]; exact h.each i hi⟩
theorem TwoL.rdB (h : TwoL w gs gh n V L H) : RdB w (.slice (some ⟨gh, 0, none⟩) n n) ((List.range n).map H) := by
  have hl : ((List.range n).map H).length = n := by simp
  refine ⟨some ⟨gh, 0, none⟩, n, by rw [hl], by rw [hl]; exact Nat.le_refl _, by unfold maxLen; have := h.n1; omega, nofun, fun i hi => ?_⟩
  rw [hl] at hi
  exact ⟨gh, 0, rfl, h.rh.lt, by rw [Nat.zero_add, h.rh.cell hi]; simp [hb, List.getD, hi]⟩
end
theorem FarL.only {w w' : World} {base gh : Nat} {v : Value} {L : List (List UInt8)} (h : FarL w base v L) (ho : Only gh w w') (hg : gh < base) : FarL w' base v L := by
  obtain ⟨T, u, vals, hv, hr⟩ := h
  have kb : ∀ {e n : Nat} {x : Value} {xs : List Value}, w.ownsRow base e 1 x n xs → w'.ownsRow base e 1 x n xs := fun h => owns_block h fun q hq => ho.block q (fun e => by have := (World.ownsRow.lt h q hq).1; omega)
  exact ⟨T, u, vals, kb hv, ⟨fun i x hx => kb (hr.own i x hx), hr.diff, hr.out⟩⟩
theorem OwnI.only {w w' : World} {base e gh : Nat} {v : Value} {zs : List Nat} (h : OwnI w base e v zs) (ho : Only gh w w') (hg : gh < base) : OwnI w' base e v zs := owns_block h fun q hq => ho.block q (fun e => by have := (World.ownsRow.lt h q hq).1; omega)
/-- places that are read on while the blocks of G turn -/
def ToldI (w : World) (G : Nat → Prop) (v : Value) (zs : List Nat) : Prop := ∃ a c, v = .slice a zs.length c ∧ (zs ≠ [] → ∃ b, a = some ⟨b, 0, none⟩ ∧ b < w.heap.size ∧ ¬ G b ∧ ∀ i, i < zs.length → w.cell? ⟨b, i, none⟩ = some (.int .i64 ((zs.getD i 0 : Nat) : Int)))
section
variable {w w' : World} {G G' : Nat → Prop} {v : Value} {zs : List Nat}
theorem ToldI.of_own {base e : Nat} (h : OwnI w base e v zs) (hG : ∀ k, G k → k < base) : ToldI w G v zs := by
  obtain ⟨a, c, rfl⟩ := h.form
  refine ⟨a, c, rfl, fun h0 => ?_⟩
  obtain ⟨b, e1, h1, h2, _⟩ := h.cell (List.length_pos_iff.2 h0)
  refine ⟨b, e1, h1, fun q => by have := hG b q; omega, fun i hi => ?_⟩
  obtain ⟨b', e2, _, _, h3⟩ := h.cell hi
  rw [e1] at e2
  simp at e2
  rw [e2]
  exact h3
theorem ToldI.of_row {g t n : Nat} {f : Nat → Value} (h : w.rowIs g t n f) (hn : n = zs.length) (hf : ∀ i, i < zs.length → f i = .int .i64 ((zs.getD i 0 : Nat) : Int)) (hg : ¬ G g) : ToldI w G (.slice (some ⟨g, 0, none⟩) n n) zs := by
  subst hn
  exact ⟨_, _, rfl, fun _ => ⟨g, rfl, h.lt, hg, fun i hi => by rw [h.cell hi, hf i hi]⟩⟩
theorem ToldI.form (h : ToldI w G v zs) : ∃ a c, v = .slice a zs.length c := by
  obtain ⟨a, c, e, _⟩ := h
  exact ⟨a, c, e⟩
theorem ToldI.grew (h : ToldI w G v zs) (g : Grew G w G' w') : ToldI w' G' v zs := by
  obtain ⟨a, c, e, h⟩ := h
  refine ⟨a, c, e, fun h0 => ?_⟩
  obtain ⟨b, e1, h1, h2, h3⟩ := h h0
  exact ⟨b, e1, Nat.lt_of_lt_of_le h1 g.turn.size, g.off h1 h2, fun i hi => (g.turn.cell (p := ⟨b, i, none⟩) h1 h2).trans (h3 i hi)⟩
theorem ToldI.below (h : ToldI w G v zs) (hb : Below w.heap.size w w') : ToldI w' G v zs := h.grew (Grew.of_below hb)
theorem ToldI.at {a : Option Addr} {n c : Nat} (h : ToldI w G (.slice a n c) zs) {i : Nat} (hi : i < zs.length) : ∃ b, a = some ⟨b, 0, none⟩ ∧ b < w.heap.size ∧ ¬ G b ∧ w.cell? ⟨b, i, none⟩ = some (.int .i64 ((zs.getD i 0 : Nat) : Int)) := by
  obtain ⟨a', c', e, h⟩ := h
  simp at e
  obtain ⟨rfl, _⟩ := e
  obtain ⟨b, e1, h1, h2, h3⟩ := h (fun e => by rw [e] at hi; simp at hi)
  exact ⟨b, e1, h1, h2, h3 i hi⟩
end
end Go.Proofs.YtddnfhfangfgeaaGreat.Gf

namespace Go.Proofs.YtddnfhfangfgeaaGreat.Gf
set_option linter.unusedVariables false
set_option linter.unusedSimpArgs false
open Go.RowKit
open Go.Maps (Keyed)
open Go.ChangeMaps Go.MapKept
/-- an element reads as itself -/
def RV (v : Value) : Option (DataW Value × List MemPlace) := some (.held v, [])
theorem RV_inv {v : Value} {d : DataW Value} {ps : List MemPlace} (h : RV v = some (d, ps)) : d = .held v := by
  unfold RV at h
  simp at h
  exact h.1.symm
def MapI (P : Program) (K : TypeId) (w : World) (b S : Nat) (f : Int → Option Value) : Prop :=
  ∃ D, w.ownsMap P K RV b S D ∧ (∀ kl, Maps.has D kl = true → ∃ x : Int, kl = .int .i64 x ∧ 0 ≤ x ∧ x < (S : Int)) ∧
    (∀ x : Int, (Maps.has D (.int .i64 x) = false ∧ f x = none) ∨ ∃ v, f x = some v ∧ Maps.has D (.int .i64 x) = true ∧ ∀ z, D.atKey (.int .i64 x) z = .held v)
/-- no more numbers than there are -/
theorem pigeon : ∀ (S : Nat) (l : List Nat), l.Nodup → (∀ x ∈ l, x < S) → l.length ≤ S
  | 0, l, _, h => by
    cases l with
    | nil => exact Nat.le_refl _
    | cons a l => have := h a (by simp); omega
  | S + 1, l, hn, h => by
    have h1 := pigeon S (l.erase S) (hn.erase S) (fun x hx => by
      have hx1 := h x (List.mem_of_mem_erase hx)
      have hx2 : x ≠ S := fun e => by
        subst e
        exact (List.Nodup.not_mem_erase hn) hx
      omega)
    have h2 := List.length_erase (l := l) (a := S)
    split at h2 <;> omega
theorem own_tight {P : Program} {K b n : Nat} {w : World} {R : Value → Option (DataW Value × List MemPlace)} {D : DataW Value} (h : w.ownsMap P K R b n D) : w.ownsMap P K R b (Maps.size D) D := by
  obtain ⟨es, clock, hb, F, hs, rfl⟩ := h
  refine ⟨es, clock, hb, F, ?_, rfl⟩
  simp [Maps.size, length_sorted]
theorem tight_S {P : Program} {K b n S : Nat} {w : World} {D : DataW Value} (law : Keyed P K) (h : w.ownsMap P K RV b n D) (hk : ∀ kl, Maps.has D kl = true → ∃ x : Int, kl = .int .i64 x ∧ 0 ≤ x ∧ x < (S : Int)) : w.ownsMap P K RV b S D := by
  refine (own_tight h).mono ?_
  obtain ⟨es, rfl, hp⟩ := h.tidy law
  have hin : ∀ p ∈ es, ∃ x : Int, p.1 = .int .i64 x ∧ 0 ≤ x ∧ x < (S : Int) := by
    intro p hp1
    refine hk p.1 ?_
    rw [Maps.has_eq, List.any_eq_true]
    refine ⟨p, hp1, WideAt.sameKey_self ?_⟩
    obtain ⟨es', hD, _, hl⟩ := h.canon law
    simp at hD
    subst hD
    exact hl p hp1
  let g : Lit × DataW Value → Nat := fun p => match p.1 with | .int _ x => x.toNat | _ => 0
  have h1 : (es.map g).Nodup := by
    rw [List.Nodup, List.pairwise_map]
    refine hp.imp_of_mem ?_
    intro a b ha hb hne e
    obtain ⟨x, hx, hx0, _⟩ := hin a ha
    obtain ⟨y, hy, hy0, _⟩ := hin b hb
    apply hne
    have e' : x.toNat = y.toNat := by simpa [g, hx, hy] using e
    rw [hx, hy]
    congr 1
    omega
  have h2 := pigeon S (es.map g) h1 (by
    intro n hn
    obtain ⟨p, hp1, rfl⟩ := List.mem_map.1 hn
    obtain ⟨x, hx, hx0, hxS⟩ := hin p hp1
    simp only [g, hx]
    omega)
  rw [List.length_map] at h2
  exact h2
theorem MapI.made (P : Program) (K : TypeId) (w : World) (S : Nat) : MapI P K (w.alloc (.map #[] 0)) w.heap.size S (fun _ => none) :=
  ⟨.map [], (World.ownsMap_made w P K RV).mono (Nat.zero_le _), fun kl h => by simp [Maps.has] at h, fun x => Or.inl ⟨rfl, rfl⟩⟩
theorem MapI.lt {P : Program} {K b S : Nat} {w : World} {f : Int → Option Value} (h : MapI P K w b S f) : b < w.heap.size := by
  obtain ⟨D, h, _⟩ := h
  exact h.lt
theorem MapI.of_block {P : Program} {K b S : Nat} {w w' : World} {f : Int → Option Value} (h : MapI P K w b S f) (he : w'.heap[b]? = w.heap[b]?) : MapI P K w' b S f := by
  obtain ⟨D, ⟨es, clock, hb, r⟩, r2⟩ := h
  exact ⟨D, ⟨es, clock, he.trans hb, r⟩, r2⟩
theorem MapI.below {P : Program} {K b S : Nat} {w w' : World} {f : Int → Option Value} (h : MapI P K w b S f) (hb : Below w.heap.size w w') : MapI P K w' b S f := h.of_block (hb.block b h.lt)
theorem MapI.congr {P : Program} {K b S : Nat} {w : World} {f g : Int → Option Value} (h : MapI P K w b S f) (e : ∀ x, f x = g x) : MapI P K w b S g := by
  have : f = g := funext e
  subst this
  exact h
/-- what is not there -/
theorem MapI.out {P : Program} {K b S : Nat} {w : World} {f : Int → Option Value} (h : MapI P K w b S f) {x : Int} (hx : ¬ (0 ≤ x ∧ x < (S : Int))) : f x = none := by
  obtain ⟨D, _, h2, h3⟩ := h
  rcases h3 x with ⟨_, e⟩ | ⟨v, _, hh, _⟩
  · exact e
  · obtain ⟨y, e, h4⟩ := h2 _ hh
    simp at e
    subst e
    exact absurd h4 hx
/-- 'v, ok := m[k]' -/
theorem MapI.look_ok {P : Program} {K b S t e : Nat} {w : World} {f : Int → Option Value} (h : MapI P K w b S f) (law : Keyed P K) (ht : P.underlying t = some (.map K e)) {z : Value} (hz : (zeroValue e).run P w = .ok z w) {x : Int} (hk : keyOf P K (.int .i64 x) = some (.int .i64 x)) :
    (Instr.lookup t (.map (some b)) (.int .i64 x) true).run P w = .ok (.tuple #[(f x).getD z, .bool (f x).isSome]) w := by
  obtain ⟨D, h1, h2, h3⟩ := h
  obtain ⟨v, ps, hr, hv⟩ := h1.look_ok law ht hz (zd := .held z) (zp := []) rfl hk
  rw [hr]
  have hv' := RV_inv hv
  rcases h3 x with ⟨hh, e⟩ | ⟨u, e, hh, ha⟩
  · rw [Maps.atKey_of_not_has hh] at hv'
    simp at hv'
    rw [e, hh, hv']
    rfl
  · rw [ha] at hv'
    simp at hv'
    rw [e, hh, hv']
    rfl
/-- 'm[k]' -/
theorem MapI.look {P : Program} {K b S t e : Nat} {w : World} {f : Int → Option Value} (h : MapI P K w b S f) (law : Keyed P K) (ht : P.underlying t = some (.map K e)) {z : Value} (hz : (zeroValue e).run P w = .ok z w) {x : Int} (hk : keyOf P K (.int .i64 x) = some (.int .i64 x)) :
    (Instr.lookup t (.map (some b)) (.int .i64 x) false).run P w = .ok ((f x).getD z) w := by
  obtain ⟨D, h1, h2, h3⟩ := h
  obtain ⟨v, ps, hr, hv⟩ := h1.lookup law ht hz (zd := .held z) (zp := []) rfl hk
  rw [hr]
  have hv' := RV_inv hv
  rcases h3 x with ⟨hh, e⟩ | ⟨u, e, hh, ha⟩
  · rw [Maps.atKey_of_not_has hh] at hv'
    simp at hv'
    rw [e, hv']
    rfl
  · rw [ha] at hv'
    simp at hv'
    rw [e, hv']
    rfl
def putI (f : Int → Option Value) (x : Int) (v : Value) (y : Int) : Option Value := if y = x then some v else f y
def delI (f : Int → Option Value) (x : Int) (y : Int) : Option Value := if y = x then none else f y
/-- 'm[k] = v' -/
theorem MapI.store {P : Program} {K b S t e : Nat} {w : World} {f : Int → Option Value} (h : MapI P K w b S f) (law : Keyed P K) (ht : P.underlying t = some (.map K e)) (hS : S < maxLen) {x : Int} (hk : keyOf P K (.int .i64 x) = some (.int .i64 x)) (h0 : 0 ≤ x) (hx : x < (S : Int)) (v : Value) :
    ∃ w', (Instr.mapUpdate t (.map (some b)) (.int .i64 x) v).run P w = .ok () w' ∧ MapI P K w' b S (putI f x v) ∧ w.mapTurned w' b := by
  obtain ⟨D, h1, h2, h3⟩ := h
  obtain ⟨w', hr, ho, hm⟩ := h1.store law ht hS (val := v) (d := .held v) (ps := []) hk rfl
  have hk2 : ∀ kl, Maps.has (D.put (.int .i64 x) (.held v)) kl = true → ∃ y : Int, kl = .int .i64 y ∧ 0 ≤ y ∧ y < (S : Int) := by
    intro kl hh
    by_cases e : kl = .int .i64 x
    · exact ⟨x, e, h0, hx⟩
    · rw [Maps.has_put_other e] at hh
      exact h2 kl hh
  refine ⟨w', hr, ⟨_, tight_S law ho hk2, hk2, fun y => ?_⟩, hm⟩
  unfold putI
  by_cases e : y = x
  · subst e
    exact Or.inr ⟨v, if_pos rfl, Maps.has_put_same h1.isMap (show WideAt.IsKeyLit (.int .i64 y) from trivial) _, fun z => Maps.atKey_put_same h1.isMap (show WideAt.IsKeyLit (.int .i64 y) from trivial) _ z⟩
  · have hne : Lit.int .i64 y ≠ .int .i64 x := fun h => e (by simpa using h)
    rw [if_neg e, Maps.has_put_other hne]
    rcases h3 y with h | ⟨u, a1, a2, a3⟩
    · exact Or.inl h
    · exact Or.inr ⟨u, a1, a2, fun z => by rw [Maps.atKey_put_other hne]; exact a3 z⟩
/-- 'delete(m, k)' -/
theorem MapI.drop {P : Program} {K b S t e : Nat} {w : World} {f : Int → Option Value} (h : MapI P K w b S f) (law : Keyed P K) (ht : P.underlying t = some (.map K e)) {x : Int} (hk : keyOf P K (.int .i64 x) = some (.int .i64 x)) (ty : TypeId) :
    ∃ w', (Builtin.delete_ #[t, K] ty #[.map (some b), .int .i64 x]).run P w = .ok (.tuple #[]) w' ∧ MapI P K w' b S (delI f x) ∧ w.mapTurned w' b := by
  obtain ⟨D, h1, h2, h3⟩ := h
  obtain ⟨w', hr, ho, hm⟩ := h1.drop law ht hk ty
  refine ⟨w', hr, ⟨_, ho, fun kl hh => ?_, fun y => ?_⟩, hm⟩
  · by_cases e : kl = .int .i64 x
    · subst e
      rw [Maps.has_del_same] at hh
      cases hh
    · rw [Maps.has_del_other e] at hh
      exact h2 kl hh
  · unfold delI
    by_cases e : y = x
    · subst e
      exact Or.inl ⟨Maps.has_del_same, if_pos rfl⟩
    · have hne : Lit.int .i64 y ≠ .int .i64 x := fun h => e (by simpa using h)
      rw [if_neg e, Maps.has_del_other hne]
      rcases h3 y with h | ⟨u, a1, a2, a3⟩
      · exact Or.inl h
      · exact Or.inr ⟨u, a1, a2, fun z => by rw [Maps.atKey_del_other hne]; exact a3 z⟩
/-- 'clear(m)' -/
theorem MapI.clear {P : Program} {K b S t e : Nat} {w : World} {f : Int → Option Value} (h : MapI P K w b S f) (ht : P.underlying t = some (.map K e)) (ty : TypeId) :
    ∃ w', (Builtin.clear_ #[t] ty #[.map (some b)]).run P w = .ok (.tuple #[]) w' ∧ MapI P K w' b S (fun _ => none) ∧ w.mapTurned w' b := by
  obtain ⟨D, ⟨es, clock, hb, F, hs, rfl⟩, h2, h3⟩ := h
  refine ⟨setBlock w b (.map #[] clock), ?_, ⟨.map [], ⟨#[], clock, heap_setBlock_same hb _, ⟨by simp, stamped_empty _, by simp⟩, Nat.zero_le _, rfl⟩, fun kl h => by simp [Maps.has] at h, fun x => Or.inl ⟨rfl, rfl⟩⟩, ⟨es, clock, #[], clock, hb, rfl⟩⟩
  simp [Builtin.clear_, run_underlying ht, MapKept.run_getObj_map hb, MapKept.run_setObj_map _ hb, Result.andThen, setBlock]
theorem mapTurned_block {w w' : World} {b c : Nat} (h : w.mapTurned w' b) (hc : c ≠ b) : w'.heap[c]? = w.heap[c]? := by
  obtain ⟨es, clock, es', clock', hb, rfl⟩ := h
  exact heap_setBlock_other hb _ hc
end Go.Proofs.YtddnfhfangfgeaaGreat.Gf

