/- TEXTS JOINED: BkRd, WdInts, SeMath, FoRef. -/
import Derived.Test.YthmoiffkgcnjmaaPome2
import Derived.Laws.AppendOwn
namespace Go.Proofs.Ythmoiffkgcnjmaa.Gf
set_option linter.unusedVariables false
set_option linter.unusedSimpArgs false
open Go.RowKit
/-- the shard i -/
def ro (L : List (List UInt8)) (i : Nat) : List UInt8 := L.getD i []
theorem ro_lt {L : List (List UInt8)} {i : Nat} (h : i < L.length) : ro L i = L[i] := by simp [ro, List.getD, h]
theorem ro_some {L : List (List UInt8)} {i : Nat} (h : i < L.length) : L[i]? = some (ro L i) := by rw [ro_lt h]; exact List.getElem?_eq_getElem h
def Rs (w : World) (v : Value) (L : List (List UInt8)) : Prop :=
  ∃ (a : Option Addr) (cap : Nat), v = .slice a L.length cap ∧ L.length ≤ cap ∧ cap ≤ maxLen ∧ (a = none → cap = 0) ∧
    ∀ i, i < L.length → ∃ (b off : Nat) (x : Value), a = some ⟨b, off, none⟩ ∧ b < w.heap.size ∧ w.cell? ⟨b, off + i, none⟩ = some x ∧ Rd w x (ro L i)
theorem Rs.below {w w' : World} {v : Value} {L : List (List UInt8)} (h : Rs w v L) (hb : Below w.heap.size w w') : Rs w' v L := by
  obtain ⟨a, cap, h1, h2, h3, h4, h5⟩ := h
  refine ⟨a, cap, h1, h2, h3, h4, fun i hi => ?_⟩
  obtain ⟨b, off, x, k1, k2, k3, k4⟩ := h5 i hi
  exact ⟨b, off, x, k1, Nat.lt_of_lt_of_le k2 hb.size, (hb.cell (p := ⟨b, off + i, none⟩) k2).trans k3, k4.below hb⟩
theorem Rs.form {w : World} {v : Value} {L : List (List UInt8)} (h : Rs w v L) : ∃ a c, v = .slice a L.length c := by
  obtain ⟨a, c, e, _⟩ := h
  exact ⟨a, c, e⟩
/-- a shard, as the walk meets it -/
theorem Rs.at {w : World} {a : Option Addr} {n c : Nat} {L : List (List UInt8)} (h : Rs w (.slice a n c) L) {i : Nat} (hi : i < L.length) :
    ∃ (b off : Nat) (xa : Option Addr) (xc : Nat), a = some ⟨b, off, none⟩ ∧ b < w.heap.size ∧ w.cell? ⟨b, off + i, none⟩ = some (.slice xa (ro L i).length xc) ∧ Rd w (.slice xa (ro L i).length xc) (ro L i) := by
  obtain ⟨a', c', e, h1, h2, h3, h4⟩ := h
  simp at e
  obtain ⟨rfl, rfl, rfl⟩ := e
  obtain ⟨b, off, x, k1, k2, k3, k4⟩ := h4 i hi
  obtain ⟨xa, xc, rfl⟩ := k4.form
  exact ⟨b, off, xa, xc, k1, k2, k3, k4⟩
theorem Rd.byte {w : World} {a : Option Addr} {n c : Nat} {p : List UInt8} (h : Rd w (.slice a n c) p) {i : Nat} (hi : i < p.length) : ∃ b off, a = some ⟨b, off, none⟩ ∧ b < w.heap.size ∧ w.cell? ⟨b, off + i, none⟩ = some (.int .u8 ((co p i).toNat : Nat)) := by
  rcases h with ⟨a', c', e, _⟩ | ⟨b, off, cap, _, e, _, _, k, hc⟩
  · subst e; simp at hi
  · simp at e; obtain ⟨rfl, _⟩ := e; exact ⟨b, off, rfl, k, hc i hi⟩
end Go.Proofs.Ythmoiffkgcnjmaa.Gf

namespace Go.Proofs.Ythmoiffkgcnjmaa.Gf
set_option linter.unusedVariables false
set_option linter.unusedSimpArgs false
open Go.RowKit
theorem ints_ext {xs ys : List Int} (hl : xs.length = ys.length) (h : ∀ i, i < xs.length → xs.getD i 0 = ys.getD i 0) : xs = ys := by
  refine List.ext_getElem hl fun i h1 h2 => ?_
  have := h i h1
  simpa [List.getD, h1, h2] using this
set_option maxRecDepth 100000 in
set_option maxHeartbeats 1000000 in
theorem rints_any {va vb : Value} {xs ys : List Int} {w : World} (ha : RdI w va xs) (hb : RdI w vb ys) (hl : xs.length ≤ 1000000) (hl2 : ys.length ≤ 1000000) :
    Calls Try.prog 33 #[va, vb] w fun e w' => e = .returned (.bool (decide (xs = ys))) ∧ Below w.heap.size w w' := by
  obtain ⟨a1, c1, rfl⟩ := ha.form
  obtain ⟨a2, c2, rfl⟩ := hb.form
  by_cases hlen : xs.length = ys.length
  · have hn : (((xs.length : Nat) : Int) != ((ys.length : Nat) : Int)) = false := by simp [hlen]
    have hlen' : Hid _ := hlen
    clear hlen
    go_enter Try.func33, Try.ntmps33
    go_wp2
    go_loopw [5] (fun i wr => ∃ k : Nat, k ≤ xs.length ∧ i = .int .i64 k ∧ Hid (∀ j, j < k → xs.getD j 0 = ys.getD j 0) ∧ Below w.heap.size w wr) (fun i _ => xs.length - (intOf i).toNat)
    case atStart => exact ⟨0, by omega, rfl, fun j hj => by omega, Below.refl _ _⟩
    case round =>
      obtain ⟨k, hk, rfl, hs, hB⟩ := hrel
      by_cases hlt : k < xs.length
      · obtain ⟨b1, o1, rfl, _, k1⟩ := (ha.below hB).at hlt
        obtain ⟨b2, o2, rfl, _, k2⟩ := (hb.below hB).at (show k < ys.length by have := hlen'.out; omega)
        have hlt1 : (k : Int) < (xs.length : Int) := by omega
        have hlt2 : (k : Int) < (ys.length : Int) := by have := hlen'.out; omega
        by_cases e : xs.getD k 0 = ys.getD k 0
        · have HS : Hid (∀ j, j < k + 1 → xs.getD j 0 = ys.getD j 0) := fun j hj => by
            by_cases e2 : j = k
            · rw [e2]; exact e
            · exact hs.out j (by omega)
          rw [e] at k1
          generalize ys.getD k 0 = y at k1 k2
          clear e hs ha hb
          go_wp2_with fail
          try go_quiet (fail)
          try go_wp2
          go_roundw
          case rel => exact ⟨k + 1, by omega, by go_num, HS, by first | exact hB | exact hB.drewN _⟩
          case measure => simp [intOf]; omega
        · have hne : (xs.getD k 0 != ys.getD k 0) = true := bne_iff_ne.2 e
          have E : Hid (decide (xs = ys) = false) := decide_eq_false fun q => e (by rw [q])
          generalize ys.getD k 0 = y at k2 hne
          generalize xs.getD k 0 = x at k1 hne
          clear e hs ha hb
          go_wp2_with fail
          try go_quiet (fail)
          try go_wp2
          go_ret
          exact ⟨by rw [E.out]; rfl, by first | exact hB | exact hB.drewN _⟩
      · have hge : ¬ (k : Int) < (xs.length : Int) := by omega
        have E : Hid (decide (xs = ys) = true) := decide_eq_true (ints_ext hlen'.out fun i hi => hs.out i (by omega))
        clear hs ha hb
        go_wp2
        go_ret
        exact ⟨by rw [E.out]; rfl, hB⟩
  · have hn : (((xs.length : Nat) : Int) != ((ys.length : Nat) : Int)) = true := by simp; omega
    have E : Hid (decide (xs = ys) = false) := decide_eq_false fun q => hlen (by rw [q])
    clear ha hb hlen
    go_enter Try.func33, Try.ntmps33
    go_wp2
    go_ret
    exact ⟨by rw [E.out]; rfl, Below.refl _ _⟩
end Go.Proofs.Ythmoiffkgcnjmaa.Gf

namespace Go.Proofs.Ythmoiffkgcnjmaa.Gf
set_option linter.unusedVariables false
set_option linter.unusedSimpArgs false
open Go.RowKit
/-- a number's four bytes -/
def fo (n : Nat) : List UInt8 := [UInt8.ofNat (n / 16777216), UInt8.ofNat (n / 65536), UInt8.ofNat (n / 256), UInt8.ofNat n]
/-- the number of four bytes -/
def nu (p : List UInt8) : Nat := (co p 0).toNat * 16777216 + (co p 1).toNat * 65536 + (co p 2).toNat * 256 + (co p 3).toNat
theorem fo_length (n : Nat) : (fo n).length = 4 := rfl
theorem nu_lt (p : List UInt8) : nu p < 4294967296 := by
  have h0 := (co p 0).toNat_lt
  have h1 := (co p 1).toNat_lt
  have h2 := (co p 2).toNat_lt
  have h3 := (co p 3).toNat_lt
  unfold nu
  omega
theorem nu_fo {n : Nat} (h : n < 4294967296) : nu (fo n) = n := by
  show (UInt8.ofNat (n / 16777216)).toNat * 16777216 + (UInt8.ofNat (n / 65536)).toNat * 65536 + (UInt8.ofNat (n / 256)).toNat * 256 + (UInt8.ofNat n).toNat = n
  simp only [UInt8.toNat_ofNat']
  omega
end Go.Proofs.Ythmoiffkgcnjmaa.Gf

namespace Go.Proofs.Ythmoiffkgcnjmaa.Gf
set_option linter.unusedVariables false
set_option linter.unusedSimpArgs false
open Go.RowKit
set_option maxRecDepth 100000 in
set_option maxHeartbeats 1000000 in
theorem rfour_any {n : Nat} {w : World} {u : Int} (hu : u = (n : Int)) : Calls Try.prog 28 #[.int .u32 u] w fun e w' => ∃ v, e = .returned v ∧ w'.ownsRow w.heap.size 5 1 v 4 ((fo n).map vb) ∧ Below w.heap.size w w' := by
  subst hu
  obtain ⟨x0, hx0⟩ : ∃ x, Hid (x = UInt8.ofNat (n / 16777216)) := ⟨_, rfl⟩
  obtain ⟨x1, hx1⟩ : ∃ x, Hid (x = UInt8.ofNat (n / 65536)) := ⟨_, rfl⟩
  obtain ⟨x2, hx2⟩ : ∃ x, Hid (x = UInt8.ofNat (n / 256)) := ⟨_, rfl⟩
  obtain ⟨x3, hx3⟩ : ∃ x, Hid (x = UInt8.ofNat n) := ⟨_, rfl⟩
  have q0 : IntKind.u8.wrap ((n : Int) / 16777216) = ((x0.toNat : Nat) : Int) := by rw [hx0.out]; exact wrap_u8 (n / 16777216)
  have q1 : IntKind.u8.wrap ((n : Int) / 65536) = ((x1.toNat : Nat) : Int) := by rw [hx1.out]; exact wrap_u8 (n / 65536)
  have q2 : IntKind.u8.wrap ((n : Int) / 256) = ((x2.toNat : Nat) : Int) := by rw [hx2.out]; exact wrap_u8 (n / 256)
  have q3 : IntKind.u8.wrap (n : Int) = ((x3.toNat : Nat) : Int) := by rw [hx3.out]; exact wrap_u8 n
  have hF : Hid (fo n = [x0, x1, x2, x3]) := by show _ = _; rw [hx0.out, hx1.out, hx2.out, hx3.out]; rfl
  rw [hF.out]
  clear hF hx0 hx1 hx2 hx3
  go_enter Try.func28, Try.ntmps28
  go_wp2
  go_ret
  exact ⟨_, rfl, World.ownsRow_lit w #[vb x0, vb x1, vb x2, vb x3] 4 (Nat.le_refl _) (by decide) rfl, (Below.refl _ _).alloc (Nat.le_refl _) _⟩
set_option maxRecDepth 100000 in
set_option maxHeartbeats 1000000 in
theorem rnumL_any {p : List UInt8} {w : World} {v : Value} (hp : Rd w v p) (hl : 4 ≤ p.length) : Calls Try.prog 46 #[v] w fun e w' => e = .returned (.int .u32 ((nu p : Nat) : Int)) ∧ Below w.heap.size w w' := by
  rcases hp with ⟨a', c', rfl, _⟩ | ⟨b, o, c, hp0, rfl, h1, h2, h3, hpc⟩
  · simp at hl
  have c0 := hpc 0 (by omega)
  have c1 := hpc 1 (by omega)
  have c2 := hpc 2 (by omega)
  have c3 := hpc 3 (by omega)
  rw [Nat.add_zero] at c0
  have k0 : (0 : Int) < (p.length : Int) := by omega
  have k1 : (1 : Int) < (p.length : Int) := by omega
  have k2 : (2 : Int) < (p.length : Int) := by omega
  have k3 : (3 : Int) < (p.length : Int) := by omega
  have n1 : 1 < p.length := by omega
  have n2 : 2 < p.length := by omega
  have n3 : 3 < p.length := by omega
  have n0 : 0 < p.length := by omega
  clear hpc
  have HN : Hid (nu p = (co p 0).toNat * 16777216 + (co p 1).toNat * 65536 + (co p 2).toNat * 256 + (co p 3).toNat) := rfl
  have b0 := (co p 0).toNat_lt
  have b1 := (co p 1).toNat_lt
  have b2 := (co p 2).toNat_lt
  have b3 := (co p 3).toNat_lt
  generalize co p 0 = x0 at *
  generalize co p 1 = x1 at *
  generalize co p 2 = x2 at *
  generalize co p 3 = x3 at *
  generalize nu p = N at *
  go_enter Try.func46, Try.ntmps46
  go_wp2
  go_region_held3 (fun wx => wx.cell? ⟨b, o, none⟩ = some (.int .u8 ((x0.toNat : Nat) : Int)) ∧ wx.cell? ⟨b, o + 1, none⟩ = some (.int .u8 ((x1.toNat : Nat) : Int)) ∧ wx.cell? ⟨b, o + 2, none⟩ = some (.int .u8 ((x2.toNat : Nat) : Int)) ∧ wx.cell? ⟨b, o + 3, none⟩ = some (.int .u8 ((x3.toNat : Nat) : Int))) (first | exact ⟨c0, c1, c2, c3⟩ | assumption) (fail)
  go_wp2
  go_ret
  refine ⟨ret_int ?_, (Below.refl _ _).drew⟩
  rw [HN.out]
  simp only [IntKind.wrap_u32]
  omega
theorem rnum_any {p : List UInt8} {w : World} {v : Value} (hp : Rd w v p) (hl : p.length = 4) : Calls Try.prog 46 #[v] w fun e w' => e = .returned (.int .u32 ((nu p : Nat) : Int)) ∧ Below w.heap.size w w' := rnumL_any hp (by omega)
end Go.Proofs.Ythmoiffkgcnjmaa.Gf
