/- TEXTS JOINED: BkRd, WdInts, SeMath. -/
import Derived.Test.YthmoiffkgcnjmaaQome2
namespace Go.Proofs.Ythmoiffkgcnjmaa.Gf
set_option linter.unusedVariables false
set_option linter.unusedSimpArgs false
open Go.RowKit
/-- the shard i -/
def ro (L : List (List UInt8)) (i : Nat) : List UInt8 := L.getD i []
theorem ro_lt {L : List (List UInt8)} {i : Nat} (h : i < L.length) : ro L i = L[i] := by simp [ro, List.getD, h]
theorem ro_some {L : List (List UInt8)} {i : Nat} (h : i < L.length) : L[i]? = some (ro L i) := by rw [ro_lt h]; exact List.getElem?_eq_getElem h
/-- n shards -/
def mkL (n : Nat) (f : Nat → List UInt8) : List (List UInt8) := (List.range n).map f
theorem mkL_length (n : Nat) (f : Nat → List UInt8) : (mkL n f).length = n := by simp [mkL]
theorem ro_mkL {n : Nat} {f : Nat → List UInt8} {i : Nat} (h : i < n) : ro (mkL n f) i = f i := by
  rw [ro_lt (by rw [mkL_length]; exact h)]; simp [mkL]
def Rs (w : World) (v : Value) (L : List (List UInt8)) : Prop :=
  ∃ (a : Option Addr) (cap : Nat), v = .slice a L.length cap ∧ L.length ≤ cap ∧ cap ≤ maxLen ∧ (a = none → cap = 0) ∧
    ∀ i, i < L.length → ∃ (b off : Nat) (x : Value), a = some ⟨b, off, none⟩ ∧ b < w.heap.size ∧ w.cell? ⟨b, off + i, none⟩ = some x ∧ Rd w x (ro L i)
theorem Rs.below {w w' : World} {v : Value} {L : List (List UInt8)} (h : Rs w v L) (hb : Below w.heap.size w w') : Rs w' v L := by
  obtain ⟨a, cap, h1, h2, h3, h4, h5⟩ := h
  refine ⟨a, cap, h1, h2, h3, h4, fun i hi => ?_⟩
  obtain ⟨b, off, x, k1, k2, k3, k4⟩ := h5 i hi
  exact ⟨b, off, x, k1, Nat.lt_of_lt_of_le k2 hb.size, (hb.cell (p := ⟨b, off + i, none⟩) k2).trans k3, k4.below hb⟩
theorem Rs.form {w : World} {v : Value} {L : List (List UInt8)} (h : Rs w v L) : ∃ a c, v = .slice a L.length c := by
  obtain ⟨a, c, e, _⟩ := h
  exact ⟨a, c, e⟩
/-- a shard, as the walk meets it -/
theorem Rs.at {w : World} {a : Option Addr} {n c : Nat} {L : List (List UInt8)} (h : Rs w (.slice a n c) L) {i : Nat} (hi : i < L.length) :
    ∃ (b off : Nat) (xa : Option Addr) (xc : Nat), a = some ⟨b, off, none⟩ ∧ b < w.heap.size ∧ w.cell? ⟨b, off + i, none⟩ = some (.slice xa (ro L i).length xc) ∧ Rd w (.slice xa (ro L i).length xc) (ro L i) := by
  obtain ⟨a', c', e, h1, h2, h3, h4⟩ := h
  simp at e
  obtain ⟨rfl, rfl, rfl⟩ := e
  obtain ⟨b, off, x, k1, k2, k3, k4⟩ := h4 i hi
  obtain ⟨xa, xc, rfl⟩ := k4.form
  exact ⟨b, off, xa, xc, k1, k2, k3, k4⟩
theorem Rd.byte {w : World} {a : Option Addr} {n c : Nat} {p : List UInt8} (h : Rd w (.slice a n c) p) {i : Nat} (hi : i < p.length) : ∃ b off, a = some ⟨b, off, none⟩ ∧ b < w.heap.size ∧ w.cell? ⟨b, off + i, none⟩ = some (.int .u8 ((co p i).toNat : Nat)) := by
  rcases h with ⟨a', c', e, _⟩ | ⟨b, off, cap, _, e, _, _, k, hc⟩
  · subst e; simp at hi
  · simp at e; obtain ⟨rfl, _⟩ := e; exact ⟨b, off, rfl, k, hc i hi⟩
theorem rs_none {w : World} : Rs w (.slice none 0 0) [] := ⟨none, 0, rfl, Nat.le_refl _, Nat.zero_le _, fun _ => rfl, fun i hi => by simp at hi⟩
/-- Slices of slices of bytes that came in, as the frame of a statement's proof tells them. -/
theorem rs_rows {w : World} {a : Addr} {len cap : Nat} {A : Nat → Option Addr} {N C : Nat → Nat} {Z : Nat → List Int} (hl : len ≤ cap) (hm : cap ≤ maxLen)
    (h : ∀ r, r < cap → w.cell? (a.add r) = some (.slice (A r) (N r) (C r)) ∧ N r ≤ C r ∧ C r ≤ maxLen ∧ (Z r).length = C r ∧ (∀ n ∈ Z r, (Lit.int .u8 n).wf = true) ∧ (A r = none → C r = 0) ∧ ∀ a', A r = some a' → 0 ≤ a'.block ∧ ∀ c, c < C r → w.cell? (a'.add c) = some (.int .u8 ((Z r).getD c 0))) :
    ∃ L, Rs w (.slice (some a) len cap) L := by
  have row : ∀ r, ∃ p : List UInt8, r < len → N r = p.length ∧ Rd w (.slice (A r) (N r) (C r)) p := fun r => by
    by_cases hr : r < len
    · obtain ⟨h1, h2, h3, h4, h5, h6, h7⟩ := h r (by omega)
      have : ∃ p : List UInt8, N r = p.length ∧ Rd w (.slice (A r) (N r) (C r)) p := by
        refine rd_row (zs := Z r) ?_
        cases hA : A r with
        | none =>
          have := h6 hA
          refine Or.inl ⟨rfl, by omega, this, List.length_eq_zero_iff.1 (by omega)⟩
        | some a' => exact Or.inr ⟨a', rfl, h2, h3, h4, fun i hi => (h7 a' hA).2 i (by omega), h5⟩
      obtain ⟨p, hp⟩ := this
      exact ⟨p, fun _ => hp⟩
    · exact ⟨[], fun h => absurd h hr⟩
  have hex : ∃ P : Nat → List UInt8, ∀ r, r < len → N r = (P r).length ∧ Rd w (.slice (A r) (N r) (C r)) (P r) := ⟨fun r => (row r).choose, fun r => (row r).choose_spec⟩
  obtain ⟨P, hP⟩ := hex
  have hll := mkL_length len P
  refine ⟨mkL len P, some a, cap, by rw [hll], by rw [hll]; exact hl, hm, nofun, fun i hi => ?_⟩
  rw [hll] at hi
  obtain ⟨h1, _⟩ := h i (by omega)
  obtain ⟨b, off, spot⟩ := a
  have hspot : spot = none := by
    have h0 := World.cell?_spot (h 0 (by omega)).1
    simpa [Addr.add] using h0
  subst hspot
  rw [add_at] at h1
  exact ⟨b, off, _, rfl, World.block_lt_of_cell? w _ h1, h1, by rw [ro_mkL hi]; exact (hP i hi).2⟩
end Go.Proofs.Ythmoiffkgcnjmaa.Gf

namespace Go.Proofs.Ythmoiffkgcnjmaa.Gf
set_option linter.unusedVariables false
set_option linter.unusedSimpArgs false
open Go.RowKit
theorem ints_ext {xs ys : List Int} (hl : xs.length = ys.length) (h : ∀ i, i < xs.length → xs.getD i 0 = ys.getD i 0) : xs = ys := by
  refine List.ext_getElem hl fun i h1 h2 => ?_
  have := h i h1
  simpa [List.getD, h1, h2] using this
set_option maxRecDepth 100000 in
set_option maxHeartbeats 1000000 in
theorem rints_any {va vb : Value} {xs ys : List Int} {w : World} (ha : RdI w va xs) (hb : RdI w vb ys) (hl : xs.length ≤ 1000000) (hl2 : ys.length ≤ 1000000) :
    Calls Try.prog 33 #[va, vb] w fun e w' => e = .returned (.bool (decide (xs = ys))) ∧ Below w.heap.size w w' := by
  obtain ⟨a1, c1, rfl⟩ := ha.form
  obtain ⟨a2, c2, rfl⟩ := hb.form
  by_cases hlen : xs.length = ys.length
  · have hn : (((xs.length : Nat) : Int) != ((ys.length : Nat) : Int)) = false := by simp [hlen]
    have hlen' : Hid _ := hlen
    clear hlen
    go_enter Try.func33, Try.ntmps33
    go_wp2
    go_loopw [5] (fun i wr => ∃ k : Nat, k ≤ xs.length ∧ i = .int .i64 k ∧ Hid (∀ j, j < k → xs.getD j 0 = ys.getD j 0) ∧ Below w.heap.size w wr) (fun i _ => xs.length - (intOf i).toNat)
    case atStart => exact ⟨0, by omega, rfl, fun j hj => by omega, Below.refl _ _⟩
    case round =>
      obtain ⟨k, hk, rfl, hs, hB⟩ := hrel
      by_cases hlt : k < xs.length
      · obtain ⟨b1, o1, rfl, _, k1⟩ := (ha.below hB).at hlt
        obtain ⟨b2, o2, rfl, _, k2⟩ := (hb.below hB).at (show k < ys.length by have := hlen'.out; omega)
        have hlt1 : (k : Int) < (xs.length : Int) := by omega
        have hlt2 : (k : Int) < (ys.length : Int) := by have := hlen'.out; omega
        by_cases e : xs.getD k 0 = ys.getD k 0
        · have HS : Hid (∀ j, j < k + 1 → xs.getD j 0 = ys.getD j 0) := fun j hj => by
            by_cases e2 : j = k
            · rw [e2]; exact e
            · exact hs.out j (by omega)
          rw [e] at k1
          generalize ys.getD k 0 = y at k1 k2
          clear e hs ha hb
          go_wp2_with fail
          try go_quiet (fail)
          try go_wp2
          go_roundw
          case rel => exact ⟨k + 1, by omega, by go_num, HS, by first | exact hB | exact hB.drewN _⟩
          case measure => simp [intOf]; omega
        · have hne : (xs.getD k 0 != ys.getD k 0) = true := bne_iff_ne.2 e
          have E : Hid (decide (xs = ys) = false) := decide_eq_false fun q => e (by rw [q])
          generalize ys.getD k 0 = y at k2 hne
          generalize xs.getD k 0 = x at k1 hne
          clear e hs ha hb
          go_wp2_with fail
          try go_quiet (fail)
          try go_wp2
          go_ret
          exact ⟨by rw [E.out]; rfl, by first | exact hB | exact hB.drewN _⟩
      · have hge : ¬ (k : Int) < (xs.length : Int) := by omega
        have E : Hid (decide (xs = ys) = true) := decide_eq_true (ints_ext hlen'.out fun i hi => hs.out i (by omega))
        clear hs ha hb
        go_wp2
        go_ret
        exact ⟨by rw [E.out]; rfl, hB⟩
  · have hn : (((xs.length : Nat) : Int) != ((ys.length : Nat) : Int)) = true := by simp; omega
    have E : Hid (decide (xs = ys) = false) := decide_eq_false fun q => hlen (by rw [q])
    clear ha hb hlen
    go_enter Try.func33, Try.ntmps33
    go_wp2
    go_ret
    exact ⟨by rw [E.out]; rfl, Below.refl _ _⟩
end Go.Proofs.Ythmoiffkgcnjmaa.Gf

namespace Go.Proofs.Ythmoiffkgcnjmaa.Gf
set_option linter.unusedVariables false
set_option linter.unusedSimpArgs false
open Go.RowKit
/-- a number's four bytes -/
def fo (n : Nat) : List UInt8 := [UInt8.ofNat (n / 16777216), UInt8.ofNat (n / 65536), UInt8.ofNat (n / 256), UInt8.ofNat n]
/-- the number of four bytes -/
def nu (p : List UInt8) : Nat := (co p 0).toNat * 16777216 + (co p 1).toNat * 65536 + (co p 2).toNat * 256 + (co p 3).toNat
theorem fo_length (n : Nat) : (fo n).length = 4 := rfl
theorem nu_lt (p : List UInt8) : nu p < 4294967296 := by
  have h0 := (co p 0).toNat_lt
  have h1 := (co p 1).toNat_lt
  have h2 := (co p 2).toNat_lt
  have h3 := (co p 3).toNat_lt
  unfold nu
  omega
theorem nu_fo {n : Nat} (h : n < 4294967296) : nu (fo n) = n := by
  show (UInt8.ofNat (n / 16777216)).toNat * 16777216 + (UInt8.ofNat (n / 65536)).toNat * 65536 + (UInt8.ofNat (n / 256)).toNat * 256 + (UInt8.ofNat n).toNat = n
  simp only [UInt8.toNat_ofNat']
  omega
theorem four_of {p : List UInt8} (h : p.length = 4) : p = [co p 0, co p 1, co p 2, co p 3] := by
  match p, h with
  | [a, b, c, d], _ => rfl
theorem fo_nu {p : List UInt8} (h : p.length = 4) : fo (nu p) = p := by
  conv => rhs; rw [four_of h]
  have h0 := (co p 0).toNat_lt
  have h1 := (co p 1).toNat_lt
  have h2 := (co p 2).toNat_lt
  have h3 := (co p 3).toNat_lt
  unfold fo
  congr 1
  · apply UInt8.toNat_inj.1
    rw [UInt8.toNat_ofNat']
    unfold nu
    omega
  congr 1
  · apply UInt8.toNat_inj.1
    rw [UInt8.toNat_ofNat']
    unfold nu
    omega
  congr 1
  · apply UInt8.toNat_inj.1
    rw [UInt8.toNat_ofNat']
    unfold nu
    omega
  congr 1
  · apply UInt8.toNat_inj.1
    rw [UInt8.toNat_ofNat']
    unfold nu
    omega
end Go.Proofs.Ythmoiffkgcnjmaa.Gf
