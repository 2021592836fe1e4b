/- TEXTS JOINED: VsR, StCc. -/
import Derived.Maps.AppendAt
import Derived.Test.YtclieefpnbdbjaaGreatRome4
import Derived.Lib.SliceRun
namespace Go.Proofs.YtclieefpnbdbjaaGreat.Gf
set_option linter.unusedVariables false
set_option linter.unusedSimpArgs false
open Go.RowKit
structure Vs (w : World) (base T : Nat) (v : Value) (L : List (List UInt8)) (vals : List Value) : Prop where
  row : w.ownsRow base T 1 v L.length vals
  each : ∀ (i : Nat) (x : Value), vals[i]? = some x → Rd w x (ro L i)
  ap : ∀ (i : Nat) (x : Value), vals[i]? = some x → ∀ g, v.ownBlock = some g → Apart g x
section
variable {w w2 : World} {base T : Nat} {v v' x : Value} {L : List (List UInt8)} {vals : List Value} {p : List UInt8}
theorem Vs.nil (w : World) (base T : Nat) : Vs w base T (.slice none 0 0) [] [] := ⟨World.ownsRow_nil _ _ _ _, fun i x h => by simp at h, fun i x h => by simp at h⟩
theorem Vs.below (h : Vs w base T v L vals) (hb : Below w.heap.size w w2) : Vs w2 base T v L vals := ⟨owns_later h.row hb, fun i x hx => (h.each i x hx).below hb, h.ap⟩
theorem Vs.len (h : Vs w base T v L vals) : vals.length = L.length := by have := h.row.1; omega
theorem Vs.form (h : Vs w base T v L vals) : ∃ a c, v = .slice a L.length c := by
  obtain ⟨_, ⟨hv, hn⟩ | ⟨g, cap, cur, hv, _⟩⟩ := h.row
  · rw [hn]; exact ⟨_, _, hv⟩
  · exact ⟨_, _, hv⟩
theorem Vs.rs (h : Vs w base T v L vals) : Rs w v L := by
  have hlen := h.len
  have hv' := h.row
  obtain ⟨_, ⟨e, hn⟩ | ⟨g, cap, cur, e, hg, hh, hc, hm, hs, ht⟩⟩ := h.row
  · subst e
    have : L = [] := List.length_eq_zero_iff.1 hn
    subst this
    exact rs_none
  · subst e
    refine ⟨some ⟨g, 0, none⟩, cap, rfl, hc, hm, nofun, fun i hi => ?_⟩
    have hx : vals[i]? = some vals[i] := List.getElem?_eq_getElem (by omega)
    refine ⟨g, 0, vals[i], rfl, (Array.getElem?_eq_some_iff.1 hh).1, ?_, h.each i _ hx⟩
    rw [Nat.zero_add, World.ownsRow.cellAt hv' i (by omega), hx]
theorem Rd.grownV {y : Value} {q : List UInt8} {r : Option Nat} (h : Rd w y q) (g : w.grownBy w2 r) (ha : ∀ k, r = some k → Apart k y) : Rd w2 y q := by
  cases r with
  | none => exact h.below ((Below.refl _ _).grown g (Nat.le_refl _) (fun k h => by cases h))
  | some k => exact h.grown g (ha k rfl)
theorem Vs.push (h : Vs w base T v L vals) (hx : Rd w x p) (hxa : ∀ g, v.ownBlock = some g → Apart g x) (hr : w2.ownsRow base T 1 v' (L.length + 1) (vals ++ [x])) (g : w.grownBy w2 v.ownBlock) (e : v'.ownBlock = v.ownBlock ∨ v'.ownBlock = some w.heap.size) : Vs w2 base T v' (L ++ [p]) (vals ++ [x]) := by
  have hlen := h.len
  have at_end : ∀ (i : Nat) (y : Value), (vals ++ [x])[i]? = some y → (vals[i]? = some y ∧ i < vals.length) ∨ (i = vals.length ∧ y = x) := fun i y hy => by
    by_cases hi : i < vals.length
    · rw [List.getElem?_append_left hi] at hy; exact Or.inl ⟨hy, hi⟩
    · rw [List.getElem?_append_right (by omega)] at hy
      have : i - vals.length = 0 := by
        rcases Nat.eq_zero_or_pos (i - vals.length) with e | e
        · exact e
        · rw [List.getElem?_eq_none (by simp; omega)] at hy; cases hy
      rw [this] at hy
      simp at hy
      exact Or.inr ⟨by omega, hy.symm⟩
  have far : ∀ y q, Rd w y q → (∀ k, v.ownBlock = some k → Apart k y) → ∀ k, v'.ownBlock = some k → Apart k y := fun y q hy ha k hk => by
    rcases e with e | e
    · rw [e] at hk; exact ha k hk
    · rw [e] at hk
      simp at hk
      exact hy.apart (by omega)
  refine ⟨by rw [List.length_append]; exact hr, fun i y hy => ?_, fun i y hy => ?_⟩
  · rcases at_end i y hy with ⟨e1, hi⟩ | ⟨rfl, rfl⟩
    · rw [ro_append_left (by omega)]
      exact (h.each i y e1).grownV g (h.ap i y e1)
    · rw [ro_append_right (by omega), hlen, Nat.sub_self]
      exact hx.grownV g hxa
  · rcases at_end i y hy with ⟨e1, hi⟩ | ⟨rfl, rfl⟩
    · exact far y _ (h.each i y e1) (h.ap i y e1)
    · exact far y _ hx hxa
end
end Go.Proofs.YtclieefpnbdbjaaGreat.Gf

namespace Go.Proofs.YtclieefpnbdbjaaGreat.Gf
set_option linter.unusedVariables false
set_option linter.unusedSimpArgs false
open Go.RowKit
theorem zeroCells_u8 (k : Nat) : Builtin.zeroCells #[Value.int .u8 0] k = (List.replicate k (Value.int .u8 0)).toArray := by
  apply Array.ext'
  unfold Builtin.zeroCells
  simp only [Array.toList_map, Array.toList_range]
  refine List.ext_getElem (by simp) fun i h1 h2 => ?_
  simp [Nat.mod_one]
theorem info_u8c : (Tryz.prog.info? 5).map (fun i => (i.zero, i.size, i.bytes)) = some (some (.int .u8 0), 1, 1) := by kernel_rfl
set_option maxRecDepth 100000 in
set_option maxHeartbeats 2000000 in
theorem growb_any {n : Nat} {w : World} (hl : n ≤ 1000000) {x : Int} (hx : x = (n : Int)) : Calls Tryz.prog 184 #[.slice none 0 0, .int .i64 x] w fun e w' => ∃ v, e = .returned v ∧ w'.ownsRow w.heap.size 5 1 v 0 [] ∧ Below w.heap.size w w' := by
  subst hx
  have hb8 : Tryz.t5.bytes = 1 := by kernel_rfl
  have h1 : ¬ (281474976710656 : Int) < (n : Int) * (Tryz.t5.bytes : Int) := by
    have : ∀ q : Nat, q = 1 → ¬ (281474976710656 : Int) < (n : Int) * (q : Int) := fun q hq => by subst hq; omega
    exact this _ hb8
  have hnn : ¬ (n : Int) < 0 := by omega
  by_cases h0 : n = 0
  · subst h0
    clear hb8
    go_enter Tryz.func184, Tryz.ntmps184
    go_wp2
    go_ret
    exact ⟨_, rfl, World.ownsRow_nil _ _ _ _, Below.refl _ _⟩
  · have hpos : 0 < n := by omega
    have h2 : ¬ (281474976710656 : Nat) < Builtin.nextslicecap n 0 * Tryz.t5.bytes := by
      have h3 := growslice_fits (need := n) (old := 0) (bytes := 1) (by omega) (by omega)
      have : ∀ q : Nat, q = 1 → ¬ (281474976710656 : Nat) < Builtin.nextslicecap n 0 * q := fun q hq => by subst hq; omega
      exact this _ hb8
    clear hb8
    have hge := grownCap_ge w n 0 5
    have hle := grownCap_le_maxLen w n 0 5 (by unfold maxLen; omega)
    unfold grownCap at hge hle
    go_enter Tryz.func184, Tryz.ntmps184
    go_wp2
    all_goals try omega
    go_ret
    refine ⟨_, rfl, ⟨rfl, .inr ⟨w.heap.size, _, _, rfl, Nat.le_refl _, heap_alloc_new w _, Nat.zero_le _, hle, ?_, rfl⟩⟩, ?_⟩
    · rw [zeroCells_u8, zeroCells_u8]
      simp
      omega
    · exact ((Below.refl _ _).alloc (Nat.le_refl _) _).drew
theorem flat_take15 {L : List (List UInt8)} {r : Nat} (h : r < L.length) : (L.take (r + 1)).flatten = (L.take r).flatten ++ ro L r := by
  rw [List.take_add_one, List.flatten_append, ro_some h]
  simp
theorem flat_mono {L : List (List UInt8)} (r : Nat) : (L.take r).flatten.length ≤ L.flatten.length := by
  have := congrArg (fun M => M.flatten.length) (List.take_append_drop r L)
  simp only [List.flatten_append, List.length_append] at this
  omega
set_option maxRecDepth 100000 in
set_option maxHeartbeats 2000000 in
theorem ccatb_any {w : World} {v : Value} {L : List (List UInt8)} (hR : Rs w v L) (hl : L.flatten.length ≤ 1000000) (hl2 : L.length ≤ 1000) :
    Calls Tryz.prog 157 #[v] w fun e w' => ∃ v', e = .returned v' ∧ w'.ownsRow w.heap.size 5 1 v' L.flatten.length (L.flatten.map vb) ∧ Below w.heap.size w w' := by
  obtain ⟨i0, hi, hz0, hz1, hz2⟩ := info_parts info_u8c
  obtain ⟨a1, c1, rfl⟩ := hR.form
  obtain ⟨N, hN⟩ : ∃ N, Hid (N = L.flatten.length) := ⟨_, rfl⟩
  have hN6 : N ≤ 1000000 := by rw [hN.out]; exact hl
  have n2 : ¬ (N : Int) < 0 := by omega
  have HR : Hid (Rs w (.slice a1 L.length c1) L) := hR
  obtain ⟨FL, hFL⟩ : ∃ FL, Hid (FL = L.flatten) := ⟨_, rfl⟩
  rw [← hFL.out]
  clear hR hl
  go_enter Tryz.func157, Tryz.ntmps157
  go_wp2_with fail
  go_loopw [3, 11] (fun s i wr => ∃ r : Nat, r ≤ L.length ∧ i = .int .i64 (r : Int) ∧ s = .int .i64 (((L.take r).flatten.length : Nat) : Int) ∧ wr = w) (fun _ i _ => L.length - (intOf i).toNat)
  case atStart => exact ⟨0, by omega, rfl, rfl, rfl⟩
  case round =>
    obtain ⟨r, hr, rfl, rfl, rfl⟩ := hrel
    by_cases hlt : r < L.length
    · have hlt' : (r : Int) < (L.length : Int) := by omega
      have g1 : IntKind.i64.wrap ((r : Int) + 1) = ((r + 1 : Nat) : Int) := by rw [IntKind.wrap_i64]; omega
      obtain ⟨xb, xo, xa, xc, rfl, _, cx, Rx⟩ := HR.out.at hlt
      obtain ⟨LN, hLN⟩ : ∃ LN, Hid (LN = (ro L r).length) := ⟨_, rfl⟩
      obtain ⟨S0, hS0⟩ : ∃ S0, Hid (S0 = (L.take r).flatten.length) := ⟨_, rfl⟩
      obtain ⟨S1, hS1⟩ : ∃ S1, Hid (S1 = (L.take (r + 1)).flatten.length) := ⟨_, rfl⟩
      have eS : S0 + LN = S1 := by rw [hS0.out, hLN.out, hS1.out, flat_take15 hlt, List.length_append]
      have bS : S1 ≤ 1000000 := by rw [hS1.out]; have := flat_mono (L := L) (r + 1); have := hN.out; omega
      have w1 : IntKind.i64.wrap ((S0 : Int) + (LN : Int)) = (S1 : Int) := by rw [IntKind.wrap_i64]; omega
      have n1 : ¬ (S1 : Int) < 0 := by omega
      have HE : Hid (S0 + LN = S1) := eS
      rw [← hLN.out] at cx Rx
      rw [← hS0.out]
      clear Rx eS
      go_wp2
      go_roundw
      case rel => exact ⟨r + 1, by omega, by go_num, by rw [← hS1.out], by first | rfl | trivial⟩
      case measure => simp [intOf]; omega
    · obtain rfl : r = L.length := by omega
      have hlt' : ¬ (L.length : Int) < (L.length : Int) := by omega
      obtain ⟨wo, hwo⟩ : ∃ wo, wo = wr := ⟨_, rfl⟩
      subst hwo
      rw [List.take_of_length_le (Nat.le_refl _), ← hN.out]
      go_wp2_with fail
      refine (growb_any (n := N) (by omega) rfl).mono ?_
      rintro e u1 ⟨v, rfl, O1, B1⟩
      obtain ⟨av, cv, rfl⟩ := owns_form O1
      have HB0 : Hid (Below wo.heap.size wo u1) := B1
      have HO1 : Hid (u1.ownsRow wo.heap.size 5 1 (.slice av 0 cv) (L.take 0).flatten.length ((L.take 0).flatten.map vb)) := O1
      clear B1 O1
      go_wp2_with fail
      go_loopw [6, 27] (fun o i wz => ∃ r : Nat, r ≤ L.length ∧ i = .int .i64 (r : Int) ∧ wz.ownsRow wo.heap.size 5 1 o (L.take r).flatten.length ((L.take r).flatten.map vb) ∧ Below wo.heap.size wo wz) (fun _ i _ => L.length - (intOf i).toNat)
      case atStart => exact ⟨0, by omega, rfl, HO1.out, HB0.out⟩
      case round =>
        obtain ⟨r, hr, rfl, hO, hB⟩ := hrel
        clear HB0 HO1
        have hsz := hB.size
        obtain ⟨DD, hDD⟩ : ∃ DD, Hid (DD = (L.take r).flatten) := ⟨_, rfl⟩
        rw [← hDD.out] at hO
        obtain ⟨da, dc, rfl⟩ := owns_form hO
        by_cases hlt : r < L.length
        · have hlt' : (r : Int) < (L.length : Int) := by omega
          have g1 : IntKind.i64.wrap ((r : Int) + 1) = ((r + 1 : Nat) : Int) := by rw [IntKind.wrap_i64]; omega
          obtain ⟨xb, xo, xa, xc, rfl, _, cx, Rx⟩ := (HR.out.below hB).at hlt
          obtain ⟨LN, hLN⟩ : ∃ LN, Hid (LN = (ro L r).length) := ⟨_, rfl⟩
          rw [← hLN.out] at cx Rx
          have hl9 : Hid (DD.length + (ro L r).length ≤ 1000000) := by
            have q1 := flat_mono (L := L) (r + 1)
            rw [flat_take15 hlt, List.length_append, ← hDD.out] at q1
            show _ ≤ _
            have := hN.out
            omega
          go_wp2_with (at_builtin; go_loud (refine wpList_append_rd _ rfl (.tmp 31) (.tmp 32) 42 rfl wo.heap.size 5 i0 Tryz.underlying42 hi hz0 hz1 hz2 (.slice da DD.length dc) DD.length (DD.map vb) rfl hO (.slice xa LN xc) (ro L r) rfl Rx hl9.out hsz ?_); intro v5 w5 h5 g5)
          have H5 : Hid (w5.ownsRow wo.heap.size 5 1 v5 (L.take (r + 1)).flatten.length ((L.take (r + 1)).flatten.map vb)) := by
            show World.ownsRow _ _ _ _ _ _ _
            rw [flat_take15 hlt, List.length_append, List.map_append, ← hDD.out]
            exact h5
          have B5 : Hid (Below wo.heap.size wo w5) := hB.grown g5 hsz (fun q hq => (World.ownsRow.lt hO q hq).1)
          clear hO h5 g5 cx Rx hB
          go_wp2
          go_roundw
          case rel => exact ⟨r + 1, by omega, by go_num, H5.out, B5.out⟩
          case measure => simp [intOf]; omega
        · obtain rfl : r = L.length := by omega
          have hlt' : ¬ (L.length : Int) < (L.length : Int) := by omega
          have e9 : Hid ((L.take L.length).flatten = L.flatten) := by show _ = _; rw [List.take_of_length_le (Nat.le_refl _)]
          have FO : Hid (wr.ownsRow wo.heap.size 5 1 (.slice da DD.length dc) FL.length (FL.map vb)) := by
            show World.ownsRow _ _ _ _ _ _ _
            rw [hFL.out, ← e9.out, ← hDD.out]; exact hO
          have FB : Hid (Below wo.heap.size wo wr) := hB
          clear hO hB e9
          go_wp2
          try rw [Exit.noGoto_ret]
          go_ret
          exact ⟨_, rfl, FO.out, FB.out⟩
end Go.Proofs.YtclieefpnbdbjaaGreat.Gf
