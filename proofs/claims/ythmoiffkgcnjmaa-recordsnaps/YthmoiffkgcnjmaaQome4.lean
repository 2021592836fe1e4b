/- TEXTS JOINED: FoRef, DkCall, StCc. -/
import Derived.Laws.AppendOwn
import Derived.Test.YthmoiffkgcnjmaaQome3
import Derived.Deep.Slices
import Derived.Lib.SliceRun
namespace Go.Proofs.Ythmoiffkgcnjmaa.Gf
set_option linter.unusedVariables false
set_option linter.unusedSimpArgs false
open Go.RowKit
set_option maxRecDepth 100000 in
set_option maxHeartbeats 1000000 in
theorem rfour_any {n : Nat} {w : World} {u : Int} (hu : u = (n : Int)) : Calls Try.prog 28 #[.int .u32 u] w fun e w' => ∃ v, e = .returned v ∧ w'.ownsRow w.heap.size 5 1 v 4 ((fo n).map vb) ∧ Below w.heap.size w w' := by
  subst hu
  obtain ⟨x0, hx0⟩ : ∃ x, Hid (x = UInt8.ofNat (n / 16777216)) := ⟨_, rfl⟩
  obtain ⟨x1, hx1⟩ : ∃ x, Hid (x = UInt8.ofNat (n / 65536)) := ⟨_, rfl⟩
  obtain ⟨x2, hx2⟩ : ∃ x, Hid (x = UInt8.ofNat (n / 256)) := ⟨_, rfl⟩
  obtain ⟨x3, hx3⟩ : ∃ x, Hid (x = UInt8.ofNat n) := ⟨_, rfl⟩
  have q0 : IntKind.u8.wrap ((n : Int) / 16777216) = ((x0.toNat : Nat) : Int) := by rw [hx0.out]; exact wrap_u8 (n / 16777216)
  have q1 : IntKind.u8.wrap ((n : Int) / 65536) = ((x1.toNat : Nat) : Int) := by rw [hx1.out]; exact wrap_u8 (n / 65536)
  have q2 : IntKind.u8.wrap ((n : Int) / 256) = ((x2.toNat : Nat) : Int) := by rw [hx2.out]; exact wrap_u8 (n / 256)
  have q3 : IntKind.u8.wrap (n : Int) = ((x3.toNat : Nat) : Int) := by rw [hx3.out]; exact wrap_u8 n
  have hF : Hid (fo n = [x0, x1, x2, x3]) := by show _ = _; rw [hx0.out, hx1.out, hx2.out, hx3.out]; rfl
  rw [hF.out]
  clear hF hx0 hx1 hx2 hx3
  go_enter Try.func28, Try.ntmps28
  go_wp2
  go_ret
  exact ⟨_, rfl, World.ownsRow_lit w #[vb x0, vb x1, vb x2, vb x3] 4 (Nat.le_refl _) (by decide) rfl, (Below.refl _ _).alloc (Nat.le_refl _) _⟩
set_option maxRecDepth 100000 in
set_option maxHeartbeats 1000000 in
theorem rnumL_any {p : List UInt8} {w : World} {v : Value} (hp : Rd w v p) (hl : 4 ≤ p.length) : Calls Try.prog 46 #[v] w fun e w' => e = .returned (.int .u32 ((nu p : Nat) : Int)) ∧ Below w.heap.size w w' := by
  rcases hp with ⟨a', c', rfl, _⟩ | ⟨b, o, c, hp0, rfl, h1, h2, h3, hpc⟩
  · simp at hl
  have c0 := hpc 0 (by omega)
  have c1 := hpc 1 (by omega)
  have c2 := hpc 2 (by omega)
  have c3 := hpc 3 (by omega)
  rw [Nat.add_zero] at c0
  have k0 : (0 : Int) < (p.length : Int) := by omega
  have k1 : (1 : Int) < (p.length : Int) := by omega
  have k2 : (2 : Int) < (p.length : Int) := by omega
  have k3 : (3 : Int) < (p.length : Int) := by omega
  have n1 : 1 < p.length := by omega
  have n2 : 2 < p.length := by omega
  have n3 : 3 < p.length := by omega
  have n0 : 0 < p.length := by omega
  clear hpc
  have HN : Hid (nu p = (co p 0).toNat * 16777216 + (co p 1).toNat * 65536 + (co p 2).toNat * 256 + (co p 3).toNat) := rfl
  have b0 := (co p 0).toNat_lt
  have b1 := (co p 1).toNat_lt
  have b2 := (co p 2).toNat_lt
  have b3 := (co p 3).toNat_lt
  generalize co p 0 = x0 at *
  generalize co p 1 = x1 at *
  generalize co p 2 = x2 at *
  generalize co p 3 = x3 at *
  generalize nu p = N at *
  go_enter Try.func46, Try.ntmps46
  go_wp2
  go_region_held3 (fun wx => wx.cell? ⟨b, o, none⟩ = some (.int .u8 ((x0.toNat : Nat) : Int)) ∧ wx.cell? ⟨b, o + 1, none⟩ = some (.int .u8 ((x1.toNat : Nat) : Int)) ∧ wx.cell? ⟨b, o + 2, none⟩ = some (.int .u8 ((x2.toNat : Nat) : Int)) ∧ wx.cell? ⟨b, o + 3, none⟩ = some (.int .u8 ((x3.toNat : Nat) : Int))) (first | exact ⟨c0, c1, c2, c3⟩ | assumption) (fail)
  go_wp2
  go_ret
  refine ⟨ret_int ?_, (Below.refl _ _).drew⟩
  rw [HN.out]
  simp only [IntKind.wrap_u32]
  omega
theorem rnum_any {p : List UInt8} {w : World} {v : Value} (hp : Rd w v p) (hl : p.length = 4) : Calls Try.prog 46 #[v] w fun e w' => e = .returned (.int .u32 ((nu p : Nat) : Int)) ∧ Below w.heap.size w w' := rnumL_any hp (by omega)
end Go.Proofs.Ythmoiffkgcnjmaa.Gf

namespace Go.Proofs.Ythmoiffkgcnjmaa.Gf
set_option linter.unusedVariables false
set_option linter.unusedSimpArgs false
open Go.RowKit
open Go.ChangeShapes
theorem rdI_row2 {w : World} {a : Option Addr} {len cap : Nat} {zs : List Int}
    (h : (a = none ∧ len = 0 ∧ cap = 0 ∧ zs = []) ∨ ∃ x, a = some x ∧ len ≤ cap ∧ cap ≤ maxLen ∧ zs.length = cap ∧ (∀ i, i < zs.length → w.cell? (x.add i) = some (.int .i64 (zs.getD i 0))) ∧ ∀ n ∈ zs, (Lit.int .i64 n).wf = true) :
    ∃ p : List Int, RdI w (.slice a len cap) p ∧ ∀ z ∈ p, (Lit.int .i64 z).wf = true := by
  rcases h with ⟨rfl, rfl, rfl, rfl⟩ | ⟨x, rfl, hl, hm, hz, hcell, hwz⟩
  · exact ⟨[], Or.inl ⟨none, 0, rfl, rfl⟩, by simp⟩
  · have hlen : (zs.take len).length = len := by rw [List.length_take]; omega
    refine ⟨zs.take len, ?_, fun z hz1 => hwz z (List.mem_of_mem_take hz1)⟩
    by_cases h0 : len = 0
    · subst h0
      exact Or.inl ⟨_, cap, by simp, rfl⟩
    · obtain ⟨b, off, spot⟩ := x
      have hc := hcell 0 (by omega)
      have hspot : spot = none := by simpa [Addr.add] using World.cell?_spot hc
      subst hspot
      have hbw : b < w.heap.size := by
        have e : w.cell? ⟨b, off, none⟩ = some (.int .i64 (zs.getD 0 0)) := by simpa [Addr.add] using hc
        unfold World.cell? at e
        by_cases hb : b < w.heap.size
        · exact hb
        · rw [Array.getElem?_eq_none (by show w.heap.size ≤ b; omega)] at e; cases e
      refine Or.inr ⟨b, off, cap, fun h => by rw [h] at hlen; simp at hlen; omega, by rw [hlen], by rw [hlen]; omega, hbw, fun i hi => ?_⟩
      rw [hlen] at hi
      have e1 := hcell i (by omega)
      rw [add_at] at e1
      rw [e1]
      simp [List.getD, List.getElem?_take_of_lt hi]
end Go.Proofs.Ythmoiffkgcnjmaa.Gf

namespace Go.Proofs.Ythmoiffkgcnjmaa.Gf
set_option linter.unusedVariables false
set_option linter.unusedSimpArgs false
open Go.RowKit
theorem zeroCells_u8 (k : Nat) : Builtin.zeroCells #[Value.int .u8 0] k = (List.replicate k (Value.int .u8 0)).toArray := by
  apply Array.ext'
  unfold Builtin.zeroCells
  simp only [Array.toList_map, Array.toList_range]
  refine List.ext_getElem (by simp) fun i h1 h2 => ?_
  simp [Nat.mod_one]
theorem info_u8c : (Try.prog.info? 5).map (fun i => (i.zero, i.size, i.bytes)) = some (some (.int .u8 0), 1, 1) := by kernel_rfl
set_option maxRecDepth 100000 in
set_option maxHeartbeats 2000000 in
theorem growb_any {n : Nat} {w : World} (hl : n ≤ 1000000) {x : Int} (hx : x = (n : Int)) : Calls Try.prog 52 #[.slice none 0 0, .int .i64 x] w fun e w' => ∃ v, e = .returned v ∧ w'.ownsRow w.heap.size 5 1 v 0 [] ∧ Below w.heap.size w w' := by
  subst hx
  have hb8 : Try.t5.bytes = 1 := by kernel_rfl
  have h1 : ¬ (281474976710656 : Int) < (n : Int) * (Try.t5.bytes : Int) := by
    have : ∀ q : Nat, q = 1 → ¬ (281474976710656 : Int) < (n : Int) * (q : Int) := fun q hq => by subst hq; omega
    exact this _ hb8
  have hnn : ¬ (n : Int) < 0 := by omega
  by_cases h0 : n = 0
  · subst h0
    clear hb8
    go_enter Try.func52, Try.ntmps52
    go_wp2
    go_ret
    exact ⟨_, rfl, World.ownsRow_nil _ _ _ _, Below.refl _ _⟩
  · have hpos : 0 < n := by omega
    have h2 : ¬ (281474976710656 : Nat) < Builtin.nextslicecap n 0 * Try.t5.bytes := by
      have h3 := growslice_fits (need := n) (old := 0) (bytes := 1) (by omega) (by omega)
      have : ∀ q : Nat, q = 1 → ¬ (281474976710656 : Nat) < Builtin.nextslicecap n 0 * q := fun q hq => by subst hq; omega
      exact this _ hb8
    clear hb8
    have hge := grownCap_ge w n 0 5
    have hle := grownCap_le_maxLen w n 0 5 (by unfold maxLen; omega)
    unfold grownCap at hge hle
    go_enter Try.func52, Try.ntmps52
    go_wp2
    all_goals try omega
    go_ret
    refine ⟨_, rfl, ⟨rfl, .inr ⟨w.heap.size, _, _, rfl, Nat.le_refl _, heap_alloc_new w _, Nat.zero_le _, hle, ?_, rfl⟩⟩, ?_⟩
    · rw [zeroCells_u8, zeroCells_u8]
      simp
      omega
    · exact ((Below.refl _ _).alloc (Nat.le_refl _) _).drew
theorem flat_take15 {L : List (List UInt8)} {r : Nat} (h : r < L.length) : (L.take (r + 1)).flatten = (L.take r).flatten ++ ro L r := by
  rw [List.take_add_one, List.flatten_append, ro_some h]
  simp
theorem flat_mono {L : List (List UInt8)} (r : Nat) : (L.take r).flatten.length ≤ L.flatten.length := by
  have := congrArg (fun M => M.flatten.length) (List.take_append_drop r L)
  simp only [List.flatten_append, List.length_append] at this
  omega
set_option maxRecDepth 100000 in
set_option maxHeartbeats 2000000 in
theorem ccatb_any {w : World} {v : Value} {L : List (List UInt8)} (hR : Rs w v L) (hl : L.flatten.length ≤ 1000000) (hl2 : L.length ≤ 1000) :
    Calls Try.prog 44 #[v] w fun e w' => ∃ v', e = .returned v' ∧ w'.ownsRow w.heap.size 5 1 v' L.flatten.length (L.flatten.map vb) ∧ Below w.heap.size w w' := by
  obtain ⟨i0, hi, hz0, hz1, hz2⟩ := info_parts info_u8c
  obtain ⟨a1, c1, rfl⟩ := hR.form
  obtain ⟨N, hN⟩ : ∃ N, Hid (N = L.flatten.length) := ⟨_, rfl⟩
  have hN6 : N ≤ 1000000 := by rw [hN.out]; exact hl
  have n2 : ¬ (N : Int) < 0 := by omega
  have HR : Hid (Rs w (.slice a1 L.length c1) L) := hR
  obtain ⟨FL, hFL⟩ : ∃ FL, Hid (FL = L.flatten) := ⟨_, rfl⟩
  rw [← hFL.out]
  clear hR hl
  go_enter Try.func44, Try.ntmps44
  go_wp2_with fail
  go_loopw [3, 11] (fun s i wr => ∃ r : Nat, r ≤ L.length ∧ i = .int .i64 (r : Int) ∧ s = .int .i64 (((L.take r).flatten.length : Nat) : Int) ∧ wr = w) (fun _ i _ => L.length - (intOf i).toNat)
  case atStart => exact ⟨0, by omega, rfl, rfl, rfl⟩
  case round =>
    obtain ⟨r, hr, rfl, rfl, rfl⟩ := hrel
    by_cases hlt : r < L.length
    · have hlt' : (r : Int) < (L.length : Int) := by omega
      have g1 : IntKind.i64.wrap ((r : Int) + 1) = ((r + 1 : Nat) : Int) := by rw [IntKind.wrap_i64]; omega
      obtain ⟨xb, xo, xa, xc, rfl, _, cx, Rx⟩ := HR.out.at hlt
      obtain ⟨LN, hLN⟩ : ∃ LN, Hid (LN = (ro L r).length) := ⟨_, rfl⟩
      obtain ⟨S0, hS0⟩ : ∃ S0, Hid (S0 = (L.take r).flatten.length) := ⟨_, rfl⟩
      obtain ⟨S1, hS1⟩ : ∃ S1, Hid (S1 = (L.take (r + 1)).flatten.length) := ⟨_, rfl⟩
      have eS : S0 + LN = S1 := by rw [hS0.out, hLN.out, hS1.out, flat_take15 hlt, List.length_append]
      have bS : S1 ≤ 1000000 := by rw [hS1.out]; have := flat_mono (L := L) (r + 1); have := hN.out; omega
      have w1 : IntKind.i64.wrap ((S0 : Int) + (LN : Int)) = (S1 : Int) := by rw [IntKind.wrap_i64]; omega
      have n1 : ¬ (S1 : Int) < 0 := by omega
      have HE : Hid (S0 + LN = S1) := eS
      rw [← hLN.out] at cx Rx
      rw [← hS0.out]
      clear Rx eS
      go_wp2
      go_roundw
      case rel => exact ⟨r + 1, by omega, by go_num, by rw [← hS1.out], by first | rfl | trivial⟩
      case measure => simp [intOf]; omega
    · obtain rfl : r = L.length := by omega
      have hlt' : ¬ (L.length : Int) < (L.length : Int) := by omega
      obtain ⟨wo, hwo⟩ : ∃ wo, wo = wr := ⟨_, rfl⟩
      subst hwo
      rw [List.take_of_length_le (Nat.le_refl _), ← hN.out]
      go_wp2_with fail
      refine (growb_any (n := N) (by omega) rfl).mono ?_
      rintro e u1 ⟨v, rfl, O1, B1⟩
      obtain ⟨av, cv, rfl⟩ := owns_form O1
      have HB0 : Hid (Below wo.heap.size wo u1) := B1
      have HO1 : Hid (u1.ownsRow wo.heap.size 5 1 (.slice av 0 cv) (L.take 0).flatten.length ((L.take 0).flatten.map vb)) := O1
      clear B1 O1
      go_wp2_with fail
      go_loopw [6, 27] (fun o i wz => ∃ r : Nat, r ≤ L.length ∧ i = .int .i64 (r : Int) ∧ wz.ownsRow wo.heap.size 5 1 o (L.take r).flatten.length ((L.take r).flatten.map vb) ∧ Below wo.heap.size wo wz) (fun _ i _ => L.length - (intOf i).toNat)
      case atStart => exact ⟨0, by omega, rfl, HO1.out, HB0.out⟩
      case round =>
        obtain ⟨r, hr, rfl, hO, hB⟩ := hrel
        clear HB0 HO1
        have hsz := hB.size
        obtain ⟨DD, hDD⟩ : ∃ DD, Hid (DD = (L.take r).flatten) := ⟨_, rfl⟩
        rw [← hDD.out] at hO
        obtain ⟨da, dc, rfl⟩ := owns_form hO
        by_cases hlt : r < L.length
        · have hlt' : (r : Int) < (L.length : Int) := by omega
          have g1 : IntKind.i64.wrap ((r : Int) + 1) = ((r + 1 : Nat) : Int) := by rw [IntKind.wrap_i64]; omega
          obtain ⟨xb, xo, xa, xc, rfl, _, cx, Rx⟩ := (HR.out.below hB).at hlt
          obtain ⟨LN, hLN⟩ : ∃ LN, Hid (LN = (ro L r).length) := ⟨_, rfl⟩
          rw [← hLN.out] at cx Rx
          have hl9 : Hid (DD.length + (ro L r).length ≤ 1000000) := by
            have q1 := flat_mono (L := L) (r + 1)
            rw [flat_take15 hlt, List.length_append, ← hDD.out] at q1
            show _ ≤ _
            have := hN.out
            omega
          go_wp2_with (at_builtin; go_loud (refine wpList_append_rd _ rfl (.tmp 31) (.tmp 32) 26 rfl wo.heap.size 5 i0 Try.underlying26 hi hz0 hz1 hz2 (.slice da DD.length dc) DD.length (DD.map vb) rfl hO (.slice xa LN xc) (ro L r) rfl Rx hl9.out hsz ?_); intro v5 w5 h5 g5)
          have H5 : Hid (w5.ownsRow wo.heap.size 5 1 v5 (L.take (r + 1)).flatten.length ((L.take (r + 1)).flatten.map vb)) := by
            show World.ownsRow _ _ _ _ _ _ _
            rw [flat_take15 hlt, List.length_append, List.map_append, ← hDD.out]
            exact h5
          have B5 : Hid (Below wo.heap.size wo w5) := hB.grown g5 hsz (fun q hq => (World.ownsRow.lt hO q hq).1)
          clear hO h5 g5 cx Rx hB
          go_wp2
          go_roundw
          case rel => exact ⟨r + 1, by omega, by go_num, H5.out, B5.out⟩
          case measure => simp [intOf]; omega
        · obtain rfl : r = L.length := by omega
          have hlt' : ¬ (L.length : Int) < (L.length : Int) := by omega
          have e9 : Hid ((L.take L.length).flatten = L.flatten) := by show _ = _; rw [List.take_of_length_le (Nat.le_refl _)]
          have FO : Hid (wr.ownsRow wo.heap.size 5 1 (.slice da DD.length dc) FL.length (FL.map vb)) := by
            show World.ownsRow _ _ _ _ _ _ _
            rw [hFL.out, ← e9.out, ← hDD.out]; exact hO
          have FB : Hid (Below wo.heap.size wo wr) := hB
          clear hO hB e9
          go_wp2
          try rw [Exit.noGoto_ret]
          go_ret
          exact ⟨_, rfl, FO.out, FB.out⟩
end Go.Proofs.Ythmoiffkgcnjmaa.Gf
