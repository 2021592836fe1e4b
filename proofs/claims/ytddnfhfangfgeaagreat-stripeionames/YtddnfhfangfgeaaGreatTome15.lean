/- TEXTS JOINED: WdCB, WdRefN, WdCC, KeMakes, KeEuc, PoSumInto, PoCodeA, PoTimes, PoCodeC. -/
import Derived.Test.YtddnfhfangfgeaaGreatTome5
import Derived.Test.YtddnfhfangfgeaaGreatTome14
import Derived.Test.YtddnfhfangfgeaaGreatTome12
import Derived.Deep.RegionHeld3
import Derived.Test.YtddnfhfangfgeaaGreatTome4
import Derived.Lib.SliceRun
import Derived.Test.YtddnfhfangfgeaaGreatTome2
import Derived.Deep.RegionWith
namespace Go.Proofs.YtddnfhfangfgeaaGreat.Gf
set_option linter.unusedVariables false
set_option linter.unusedSimpArgs false
open Go.RowKit
set_option maxRecDepth 100000 in
set_option maxHeartbeats 2000000 in
theorem ert_any {b : Nat} {vp vm : Value} {p : List UInt8} {ms : List Bool} {w : World} (hF : FieldAt w b) (hp : Rd w vp p) (hm : RdB w vm ms) (hl : ms.length ≤ 256) (hl2 : p.length ≤ 1000) :
    Calls Tryz.prog 170 #[.pointer (some ⟨b, 0, none⟩), vp, vm] w fun e w' => ∃ v, e = .returned v ∧ OwnI w' w.heap.size 3 v (plc (rtF p (hb ms)) ms.length) ∧ Below w.heap.size w w' := by
  obtain ⟨i0, hi, hz0, hz1, hz2⟩ := info_parts info_int10
  obtain ⟨a, c, rfl⟩ := hm.form
  obtain ⟨a2, c2, rfl⟩ := hp.form
  go_enter Tryz.func170, Tryz.ntmps170
  go_wp2
  go_loopw [7, 12] (fun o i wr => ∃ r : Nat, r ≤ ms.length ∧ i = .int .i64 r ∧ OwnI wr w.heap.size 3 o (plc (rtF p (hb ms)) r) ∧ Below w.heap.size w wr) (fun _ i _ => ms.length - (intOf i).toNat)
  case atStart => exact ⟨0, by omega, rfl, OwnI.nil _ _ _, Below.refl _ _⟩
  case round =>
    obtain ⟨r, hr, rfl, hO, hB⟩ := hrel
    have hsz := hB.size
    have hn : Hid ((plc (rtF p (hb ms)) r).length ≤ 300) := by show _ ≤ _; rw [plc_length]; have := cnt_le (rtF p (hb ms)) r; omega
    by_cases hlt : r < ms.length
    · obtain ⟨bb, off, rfl, _, c1⟩ := (hm.below hB).at hlt
      have hlt' : (r : Int) < (ms.length : Int) := by omega
      obtain ⟨av, cv, rfl⟩ := hO.form
      have E := plc_succ (rtF p (hb ms)) r
      cases e : hb ms r with
      | true =>
        rw [e] at c1
        have E' : Hid (plc (rtF p (hb ms)) (r + 1) = plc (rtF p (hb ms)) r) := by show _ = _; rw [E]; simp [rtF, e]
        clear hm hp e E
        go_wp2
        go_roundw
        case rel => exact ⟨r + 1, by omega, by go_num, by rw [E'.out]; exact hO, hB⟩
        case measure => simp [intOf]; omega
      | false =>
        rw [e] at c1
        have hr2 : r < 256 := by omega
        have m1 : Hid ((r : Int) = (((pt r).toNat : Nat) : Int)) := by show _ = _; rw [pt_toNat hr2]
        have hpr := hp.below hB
        have hFr := hF.below hB
        by_cases hv : evP p (pt r) = 0
        · have E' : Hid (plc (rtF p (hb ms)) (r + 1) = plc (rtF p (hb ms)) r ++ [r]) := by show _ = _; rw [E]; simp [rtF, e, hv]
          have hq : ((((evP p (pt r)).toNat : Nat) : Int) == 0) = true := by rw [eq_u8_zero]; exact decide_eq_true hv
          clear hm hp e E hF hv
          go_wp2_with fail
          refine (peval_quiet hFr hpr (pt r) m1.out (by omega)).mono ?_
          rintro e w2 ⟨rfl, n2, hw2⟩
          have hO2 : OwnI w2 w.heap.size 3 (.slice av (plc (rtF p (hb ms)) r).length cv) (plc (rtF p (hb ms)) r) := by rw [hw2]; exact hO
          have hB2 : Below w.heap.size w w2 := by rw [hw2]; exact hB.drewN _
          have hsz2 := hB2.size
          clear hw2 hO hB hFr hpr c1
          go_wp2_with (at_builtin; go_loud (refine wpList_append_int rfl (.tmp 27) (.tmp 29) 45 rfl w.heap.size 3 i0 Tryz.underlying45 hi hz0 hz1 hz2 (.slice av (plc (rtF p (hb ms)) r).length cv) (plc (rtF p (hb ms)) r) rfl hO2 r _ 1 rfl (by have := hn.out; omega) hsz2 ?_); intro v' w3 hv2 hb2)
          have HO : Hid (OwnI w3 w.heap.size 3 v' (plc (rtF p (hb ms)) (r + 1))) := by show OwnI _ _ _ _ _; rw [E'.out]; exact hv2
          have HB : Hid (Below w.heap.size w w3) := hB2.trans hb2
          clear hO2 hv2 hb2 hB2 hq
          go_wp2
          go_roundw
          case rel => exact ⟨r + 1, by omega, by go_num, HO.out, HB.out⟩
          case measure => simp [intOf]; omega
        · have E' : Hid (plc (rtF p (hb ms)) (r + 1) = plc (rtF p (hb ms)) r) := by show _ = _; rw [E]; simp [rtF, e, hv]
          have hq : ((((evP p (pt r)).toNat : Nat) : Int) == 0) = false := by rw [eq_u8_zero]; exact decide_eq_false hv
          clear hm hp e E hF hv
          go_wp2_with fail
          refine (peval_quiet hFr hpr (pt r) m1.out (by omega)).mono ?_
          rintro e w2 ⟨rfl, n2, hw2⟩
          have hO2 : Hid (OwnI w2 w.heap.size 3 (.slice av (plc (rtF p (hb ms)) r).length cv) (plc (rtF p (hb ms)) (r + 1))) := by show OwnI _ _ _ _ _; rw [hw2, E'.out]; exact hO
          have hB2 : Hid (Below w.heap.size w w2) := by show Below _ _ _; rw [hw2]; exact hB.drewN _
          clear hw2 hO hB hFr hpr c1
          go_wp2
          go_roundw
          case rel => exact ⟨r + 1, by omega, by go_num, hO2.out, hB2.out⟩
          case measure => simp [intOf]; omega
    · have e : r = ms.length := by omega
      subst e
      have hge : ¬ (ms.length : Int) < (ms.length : Int) := by omega
      clear hm hp
      go_wp2
      try rw [Exit.noGoto_ret]
      go_ret
      exact ⟨_, rfl, hO, hB⟩
/-- what 'differing' lays: its four variables -/
structure Df10 (w : World) (b fb sb wb eb : Nat) (vs vw ve : Value) : Prop where
  cf : w.cell? ⟨fb, 0, none⟩ = some (.pointer (some ⟨b, 0, none⟩))
  cs : w.cell? ⟨sb, 0, none⟩ = some vs
  cw : w.cell? ⟨wb, 0, none⟩ = some vw
  ce : w.cell? ⟨eb, 0, none⟩ = some ve
  lf : fb < w.heap.size
  ls : sb < w.heap.size
  lw : wb < w.heap.size
  le : eb < w.heap.size
set_option maxRecDepth 100000 in
set_option maxHeartbeats 1000000 in
theorem edif_any {b n1 n2 n3 c1 c2 c3 : Nat} {a1 a2 a3 : Option Addr} (w : World) : Calls Tryz.prog 171 #[.pointer (some ⟨b, 0, none⟩), .slice a1 n1 c1, .slice a2 n2 c2, .slice a3 n3 c3] w fun e w' =>
    ∃ fb sb wb eb, e = .returned (.func (.func 200) #[] #[.pointer (some ⟨fb, 0, none⟩), .pointer (some ⟨sb, 0, none⟩), .pointer (some ⟨wb, 0, none⟩), .pointer (some ⟨eb, 0, none⟩)]) ∧ Df10 w' b fb sb wb eb (.slice a3 n3 c3) (.slice a1 n1 c1) (.slice a2 n2 c2) ∧ Below w.heap.size w w' := by
  go_enter Tryz.func171, Tryz.ntmps171
  go_wp2
  go_ret
  refine ⟨w.heap.size, w.heap.size + 1 + 1 + 1, w.heap.size + 1, w.heap.size + 1 + 1, rfl, ⟨by go_simp, by go_simp, by go_simp, by go_simp, by simp <;> omega, by simp <;> omega, by simp <;> omega, by simp <;> omega⟩, by repeat (first | exact Below.refl _ _ | apply below_lit)⟩
set_option maxRecDepth 100000 in
set_option maxHeartbeats 4000000 in
/-- by how much a byte differs -/
theorem edif1_any {w : World} {b fb sb wb eb k m i : Nat} {vs vw ve : Value} {D O : List UInt8} (hF : FieldAt w b) (hD : Df10 w b fb sb wb eb vs vw ve) (hs : Rd w vs D) (hw : Rd w vw (upto (wtF k m) (k + m))) (he : Rd w ve O) (hi : i < k + m) (h2 : k + m ≤ 256) (hl : D.length ≤ 1000) (hl2 : O.length ≤ 1000) {x : Int} (hx : x = (i : Int)) :
    Calls Tryz.prog 200 #[.int .i64 x, .pointer (some ⟨fb, 0, none⟩), .pointer (some ⟨sb, 0, none⟩), .pointer (some ⟨wb, 0, none⟩), .pointer (some ⟨eb, 0, none⟩)] w fun e w' => e = .returned (.int .u8 (((dfF k m O D i).toNat : Nat) : Int)) ∧ ∃ n, w' = w.drewN n := by
  subst hx
  have hr2 : i < 256 := by omega
  have m1 : Hid ((i : Int) = (((pt i).toNat : Nat) : Int)) := by show _ = _; rw [pt_toNat hr2]
  obtain ⟨sa, sc, rfl⟩ := hs.form
  obtain ⟨ea, ec, rfl⟩ := he.form
  obtain ⟨wa, wc, rfl⟩ := hw.form
  rw [upto_length] at hw hD
  obtain ⟨wbb, wo, rfl, hwb, cw1⟩ := hw.byte (i := i) (by rw [upto_length]; exact hi)
  rw [co_upto_in hi] at cw1
  obtain ⟨N, hN⟩ : ∃ N, Hid (N = k + m) := ⟨_, rfl⟩
  rw [← hN.out] at hw hD hi
  have hi' : (i : Int) < (N : Int) := by omega
  obtain ⟨cf, cs, cw, ce, _, _, _, _⟩ := hD
  obtain ⟨W, hW⟩ : ∃ W, Hid (W = wtF k m i) := ⟨_, rfl⟩
  rw [← hW.out] at cw1
  clear hw
  go_enter Tryz.func200, Tryz.ntmps200
  go_wp2_with fail
  go_quiet (first
    | (go_at_call 199; go_loud (exact Calls.quiet_of (peval_quiet (hF.drewN _) (Rd.drewN hs _) (pt i) m1.out (by omega))))
    | (go_at_call 188; go_loud (exact Calls.quiet_of (fmu_quiet (hF.drewN _) (evP D (pt i)) W rfl rfl))))
  obtain ⟨n1, hn1⟩ : ∃ n1, n1 = nq := ⟨_, rfl⟩
  subst hn1
  obtain ⟨u, hu⟩ : ∃ u, u = w.drewN n1 := ⟨_, rfl⟩
  have hFu : FieldAt u b := by rw [hu]; exact hF.drewN _
  have heu : Rd u (.slice ea O.length ec) O := by rw [hu]; exact Rd.drewN he _
  have cfu : u.cell? ⟨fb, 0, none⟩ = some (.pointer (some ⟨b, 0, none⟩)) := by rw [hu]; exact cf
  have ceu : u.cell? ⟨eb, 0, none⟩ = some (.slice ea O.length ec) := by rw [hu]; exact ce
  have HU : Hid _ := hu
  rw [← hu]
  obtain ⟨d, hd⟩ : ∃ d, Hid (d = mu (evP D (pt i)) W) := ⟨_, rfl⟩
  have HE : Hid (mulS (evP O (pt i)).toNat (invS d.toNat) = (dfF k m O D i).toNat) := by
    show _ = _
    unfold dfF
    rw [← hW.out, ← hd.out, mu_toNat, iv_toNat]
  rw [← hd.out]
  clear hF hs he cf cs cw ce cw1 hu
  go_wp2_with fail
  go_quiet (first
    | (go_at_call 199; go_loud (exact Calls.quiet_of (peval_quiet (hFu.drewN _) (Rd.drewN heu _) (pt i) m1.out (by omega))))
    | (go_at_call 201; go_loud (exact Calls.quiet_of (div_all (hFu.drewN _) (evP O (pt i)).toNat d.toNat rfl rfl (u8_lt _) (u8_lt _)))))
  rw [HE.out]
  go_wp2
  go_ret
  exact ⟨rfl, n1 + nq, by rw [HU.out, World.drewN_drewN]⟩
end Go.Proofs.YtddnfhfangfgeaaGreat.Gf

namespace Go.Proofs.YtddnfhfangfgeaaGreat.Gf
set_option linter.unusedVariables false
set_option linter.unusedSimpArgs false
open Go.RowKit
/-- 'append(s, p...)', both places of a call's own -/
theorem wpList_append_ints {P : Program} (w : World) {ops : Array Oper} {rest : List Oper} {o : Oper} {a : Act} {Q : Exit → Act → World → Prop} (hgd : o.guard = none) (s x : Operand) (t : TypeId)
    (ho : o.op = .call { callee := .builtin .append, args := #[s, x], argTypes := #[t, t] })
    (base e : Nat) (i : TypeInfo) (ht : P.underlying t = some (.slice e)) (hi : P.info? e = some i) (hz : i.zero = some (.int .i64 0)) (hsize : i.size = 1) (hby : i.bytes = 8)
    (v : Value) (zs : List Nat) (hs : a.eval s = v) (hown : OwnI w base e v zs) (va : Value) (ys : List Nat) (b' e' : Nat) (hx : a.eval x = va) (hr : OwnI w b' e' va ys) (hl : zs.length + ys.length ≤ 100000) (hbase : base ≤ w.heap.size)
    (h : ∀ v' w', OwnI w' base e v' (zs ++ ys) → w.grownBy w' v.ownBlock → wpList P ops Q rest (a.put o.dst v') w') : wpList P ops Q (o :: rest) a w := by
  have hr' := hr
  obtain ⟨hlen, ⟨rfl, hn⟩ | ⟨g, cap, cur, rfl, hg, hh, hc, hm, hsz, ht2⟩⟩ := hr
  · refine wpList_append_own_none hgd s x t ho base e i 1 ht hi v zs.length (zs.map vi) hs hown hx ?_
    have : ys = [] := List.length_eq_zero_iff.1 hn
    subst this
    exact h v w (by simpa using hown) (World.grownBy.refl _ _)
  · refine wpList_append_own w hgd s x t ho base e i (.int .i64 0) 1 8 ht hi hz hsize hby rfl (by decide) v zs.length (zs.map vi) hs hown ⟨g, 0, none⟩ ys.length cap (ys.map vi) hx (by simp) (fun j u hj => ?_) (by intro u hu; obtain ⟨z, _, rfl⟩ := List.mem_map.1 hu; rfl) (by unfold maxLen; omega) (by omega) hbase ?_
    · rw [add_at, Nat.zero_add]
      have hj2 : j < ys.length := by
        rw [List.getElem?_map] at hj
        by_cases q : j < ys.length
        · exact q
        · rw [List.getElem?_eq_none (by omega)] at hj; cases hj
      rw [World.ownsRow.cellAt hr' j (by omega), hj]
    · intro v' w' ho' hg' _
      refine h v' w' ?_ hg'
      unfold OwnI
      rw [List.length_append, List.map_append]
      exact ho'
end Go.Proofs.YtddnfhfangfgeaaGreat.Gf

namespace Go.Proofs.YtddnfhfangfgeaaGreat.Gf
set_option linter.unusedVariables false
set_option linter.unusedSimpArgs false
open Go.RowKit
theorem zeroCells_int (k : Nat) : Builtin.zeroCells #[Value.int .i64 0] k = (List.replicate k (Value.int .i64 0)).toArray := by
  apply Array.ext'
  unfold Builtin.zeroCells
  simp only [Array.toList_map, Array.toList_range]
  refine List.ext_getElem (by simp) fun i h1 h2 => ?_
  simp [Nat.mod_one]
set_option maxRecDepth 100000 in
set_option maxHeartbeats 2000000 in
theorem grow_any {n : Nat} {w : World} (hl : n ≤ 1000) {x : Int} (hx : x = (n : Int)) : Calls Tryz.prog 205 #[.slice none 0 0, .int .i64 x] w fun e w' => ∃ v, e = .returned v ∧ OwnI w' w.heap.size 3 v [] ∧ Below w.heap.size w w' := by
  subst hx
  have hb8 : Tryz.t3.bytes = 8 := by kernel_rfl
  have h1 : ¬ (281474976710656 : Int) < (n : Int) * (Tryz.t3.bytes : Int) := by
    have : ∀ q : Nat, q = 8 → ¬ (281474976710656 : Int) < (n : Int) * (q : Int) := fun q hq => by subst hq; omega
    exact this _ hb8
  have hnn : ¬ (n : Int) < 0 := by omega
  by_cases h0 : n = 0
  · subst h0
    clear hb8
    go_enter Tryz.func205, Tryz.ntmps205
    go_wp2
    go_ret
    exact ⟨_, rfl, OwnI.nil _ _ _, Below.refl _ _⟩
  · have hpos : 0 < n := by omega
    have h2 : ¬ (281474976710656 : Nat) < Builtin.nextslicecap n 0 * Tryz.t3.bytes := by
      have h3 := growslice_fits (need := n) (old := 0) (bytes := 8) (by omega) (by omega)
      have : ∀ q : Nat, q = 8 → ¬ (281474976710656 : Nat) < Builtin.nextslicecap n 0 * q := fun q hq => by subst hq; omega
      exact this _ hb8
    clear hb8
    have hge := grownCap_ge w n 0 3
    have hle := grownCap_le_maxLen w n 0 3 (by unfold maxLen; omega)
    unfold grownCap at hge hle
    go_enter Tryz.func205, Tryz.ntmps205
    go_wp2
    all_goals try omega
    go_ret
    refine ⟨_, rfl, ⟨rfl, .inr ⟨w.heap.size, _, _, rfl, Nat.le_refl _, heap_alloc_new w _, Nat.zero_le _, hle, ?_, rfl⟩⟩, ?_⟩
    · rw [zeroCells_int, zeroCells_int]
      simp
      omega
    · exact ((Below.refl _ _).alloc (Nat.le_refl _) _).drew
def catF (zs ys : List Nat) (r : Nat) : List Nat := if r = 0 then [] else if r = 1 then zs else zs ++ ys
def szF (a N r : Nat) : Nat := if r = 0 then 0 else if r = 1 then a else N
set_option maxRecDepth 100000 in
set_option maxHeartbeats 2000000 in
theorem ccat_any {w : World} {b b1 b2 e1 e2 : Nat} {v1 v2 : Value} {zs ys : List Nat} (k1 : w.cell? ⟨b, 0, none⟩ = some v1) (k2 : w.cell? ⟨b, 1, none⟩ = some v2) (hb : b < w.heap.size) (h1 : OwnI w b1 e1 v1 zs) (h2 : OwnI w b2 e2 v2 ys) (hl : zs.length ≤ 300) (hl2 : ys.length ≤ 300) :
    Calls Tryz.prog 174 #[.slice (some ⟨b, 0, none⟩) 2 2] w fun e w' => ∃ v, e = .returned v ∧ OwnI w' w.heap.size 3 v (zs ++ ys) ∧ Below w.heap.size w w' := by
  obtain ⟨i0, hi, hz0, hz1, hz2⟩ := info_parts info_int10
  obtain ⟨a1, c1, rfl⟩ := h1.form
  obtain ⟨a2, c2, rfl⟩ := h2.form
  have w1 : IntKind.i64.wrap ((zs.length : Int)) = (zs.length : Int) := by rw [IntKind.wrap_i64]; omega
  obtain ⟨N, hN⟩ : ∃ N, Hid (N = zs.length + ys.length) := ⟨_, rfl⟩
  have g0 : (zs.length : Int) + (ys.length : Int) = (N : Int) := by have := hN.out; omega
  have hN6 : N ≤ 600 := by have := hN.out; omega
  have w2 : IntKind.i64.wrap (N : Int) = (N : Int) := by rw [IntKind.wrap_i64]; omega
  have n1 : ¬ (zs.length : Int) < 0 := by omega
  have n2 : ¬ (N : Int) < 0 := by omega
  go_enter Tryz.func174, Tryz.ntmps174
  go_wp2_with fail
  go_loopw [3, 11] (fun s i wr => ∃ r : Nat, r ≤ 2 ∧ i = .int .i64 (r : Int) ∧ s = .int .i64 ((szF zs.length N r : Nat) : Int) ∧ wr = w) (fun _ i _ => 2 - (intOf i).toNat)
  case atStart => exact ⟨0, by omega, rfl, rfl, rfl⟩
  case round =>
    obtain ⟨r, hr, rfl, rfl, rfl⟩ := hrel
    by_cases r0 : r = 0
    · subst r0
      have E : szF zs.length N 0 = 0 := rfl
      rw [E]
      clear E h1 h2
      go_wp2
      go_roundw
      case rel => exact ⟨1, by omega, by go_num, by show _ = Value.int .i64 ((zs.length : Nat) : Int); go_num, by first | rfl | trivial⟩
      case measure => simp [intOf]
    by_cases r1 : r = 1
    · subst r1
      have E : szF zs.length N 1 = zs.length := rfl
      rw [E]
      clear E h1 h2
      go_wp2
      go_roundw
      case rel => exact ⟨2, by omega, by go_num, by show _ = Value.int .i64 ((N : Nat) : Int); go_num, by first | rfl | trivial⟩
      case measure => simp [intOf]
    · have r2 : r = 2 := by omega
      subst r2
      obtain ⟨wo, hwo⟩ : ∃ wo, wo = wr := ⟨_, rfl⟩
      subst hwo
      have E : szF zs.length N 2 = N := rfl
      rw [E]
      clear E r0 r1
      go_wp2_with fail
      refine (grow_any (n := N) (by omega) rfl).mono ?_
      rintro e u1 ⟨v, rfl, O1, B1⟩
      have k1' := (B1.cell (p := ⟨b, 0, none⟩) hb).trans k1
      have k2' := (B1.cell (p := ⟨b, 1, none⟩) hb).trans k2
      have h1' := owns_later h1 B1
      have h2' := owns_later h2 B1
      have hsz := B1.size
      obtain ⟨av, cv, rfl⟩ := O1.form
      have HB0 : Hid (Below wo.heap.size wo u1) := B1
      clear B1 h1' h2' k1' k2'
      go_wp2_with fail
      go_loopw [6, 27] (fun o i wz => ∃ r : Nat, r ≤ 2 ∧ i = .int .i64 (r : Int) ∧ OwnI wz wo.heap.size 3 o (catF zs ys r) ∧ Below wo.heap.size wo wz) (fun _ i _ => 2 - (intOf i).toNat)
      case atStart => exact ⟨0, by omega, rfl, O1, HB0.out⟩
      case round =>
        obtain ⟨r, hr, rfl, hO, hB⟩ := hrel
        clear HB0 O1
        have hsz := hB.size
        have q1 := (hB.cell (p := ⟨b, 0, none⟩) hb).trans k1
        have q2 := (hB.cell (p := ⟨b, 1, none⟩) hb).trans k2
        have p1 : OwnI wr b1 e1 (.slice a1 zs.length c1) zs := owns_later h1 hB
        have p2 : OwnI wr b2 e2 (.slice a2 ys.length c2) ys := owns_later h2 hB
        by_cases r0 : r = 0
        · subst r0
          have E : catF zs ys 0 = [] := rfl
          rw [E] at hO
          obtain ⟨av, cv, rfl⟩ := hO.form
          clear E h1 h2 k1 k2
          go_wp2_with (at_builtin; go_loud (refine wpList_append_ints _ rfl (.tmp 31) (.tmp 32) 45 rfl wo.heap.size 3 i0 Tryz.underlying45 hi hz0 hz1 hz2 (.slice av 0 cv) [] rfl hO (.slice a1 zs.length c1) zs b1 e1 rfl p1 (by simp; omega) hsz ?_); intro v' w9 hv9 hg9)
          have HB : Hid (Below wo.heap.size wo w9) := hB.grown hg9 hsz (fun q hq => (World.ownsRow.lt hO q hq).1)
          have HO : Hid (OwnI w9 wo.heap.size 3 v' zs) := hv9
          clear hO hv9 hB hg9 p1 p2 q1 q2
          go_wp2
          go_roundw
          case rel => exact ⟨1, by omega, by go_num, HO.out, HB.out⟩
          case measure => simp [intOf]
        by_cases r1 : r = 1
        · subst r1
          have E : catF zs ys 1 = zs := rfl
          rw [E] at hO
          obtain ⟨av, cv, rfl⟩ := hO.form
          clear E h1 h2 k1 k2
          go_wp2_with (at_builtin; go_loud (refine wpList_append_ints _ rfl (.tmp 31) (.tmp 32) 45 rfl wo.heap.size 3 i0 Tryz.underlying45 hi hz0 hz1 hz2 (.slice av zs.length cv) zs rfl hO (.slice a2 ys.length c2) ys b2 e2 rfl p2 (by omega) hsz ?_); intro v' w9 hv9 hg9)
          have HB : Hid (Below wo.heap.size wo w9) := hB.grown hg9 hsz (fun q hq => (World.ownsRow.lt hO q hq).1)
          have HO : Hid (OwnI w9 wo.heap.size 3 v' (zs ++ ys)) := hv9
          clear hO hv9 hB hg9 p1 p2 q1 q2
          go_wp2
          go_roundw
          case rel => exact ⟨2, by omega, by go_num, HO.out, HB.out⟩
          case measure => simp [intOf]
        · have r2 : r = 2 := by omega
          subst r2
          have E : catF zs ys 2 = zs ++ ys := rfl
          rw [E] at hO
          clear E r0 r1 h1 h2 k1 k2 p1 p2 q1 q2
          go_wp2
          try rw [Exit.noGoto_ret]
          go_ret
          exact ⟨_, rfl, hO, hB⟩
set_option maxRecDepth 100000 in
set_option maxHeartbeats 2000000 in
theorem clone_any {v : Value} {p : List UInt8} {w : World} (hp : Rd w v p) (hl : p.length ≤ 1000) (h0 : 0 < p.length) : Calls Tryz.prog 143 #[v] w fun e w' => ∃ g c, e = .returned (.slice (some ⟨g, 0, none⟩) p.length c) ∧ RowF w' w.heap.size 5 g p.length c (co p) ∧ Below w.heap.size w w' := by
  obtain ⟨i0, hi, hz0, hz1, hz2⟩ := info_parts info_u8
  obtain ⟨a, c, rfl⟩ := hp.form
  obtain ⟨bb, off, rfl, _, _⟩ := hp.byte h0
  have qT : ∀ (w : World) (a : Option Addr) (n c n' c' : Nat), (binOp .eql 36 (.slice a n c) (.slice none n' c')).run Tryz.prog w = .ok (.bool a.isNone) w := fun w a n c n' c' => Lib.run_eql_slice_nil w _ _ a n c n' c' Tryz.underlying36
  have B1 : Below w.heap.size w (w.alloc (.cells #[] 5)) := (Below.refl _ _).alloc (Nat.le_refl _) _
  have O1 : (w.alloc (.cells #[] 5)).ownsRow w.heap.size 5 1 (.slice (some ⟨w.heap.size, 0, none⟩) 0 0) 0 [] := ⟨rfl, .inr ⟨w.heap.size, 0, #[], rfl, Nat.le_refl _, heap_alloc_new w _, Nat.le_refl _, Nat.zero_le _, rfl, rfl⟩⟩
  have hp1 := hp.below B1
  have hsz : w.heap.size ≤ (w.alloc (.cells #[] 5)).heap.size := B1.size
  go_enter Tryz.func143, Tryz.ntmps143
  go_wp2_with (at_builtin; go_loud (refine wpList_append_rd _ rfl (.tmp 5) (.tmp 6) 36 rfl w.heap.size 5 i0 Tryz.underlying36 hi hz0 hz1 hz2 (.slice (some ⟨w.heap.size, 0, none⟩) 0 0) 0 [] rfl O1 (.slice (some ⟨bb, off, none⟩) p.length c) p rfl hp1 (by omega) hsz ?_); intro v' w9 hv9 hg9)
  have HB : Hid (Below w.heap.size w w9) := B1.grown hg9 hsz (fun q hq => by cases hq; exact Nat.le_refl _)
  have HO : Hid (OwnP w9 w.heap.size 5 v' p) := by
    show OwnP _ _ _ _ _
    unfold OwnP
    rw [Nat.zero_add] at hv9
    exact hv9
  clear hv9 hg9 B1 O1 hp1 hp qT
  obtain ⟨g, c9, rfl, hR⟩ := RowF.of HO.out h0
  go_wp2
  go_ret
  exact ⟨g, c9, rfl, hR, HB.out⟩
end Go.Proofs.YtddnfhfangfgeaaGreat.Gf

namespace Go.Proofs.YtddnfhfangfgeaaGreat.Gf
set_option linter.unusedVariables false
set_option linter.unusedSimpArgs false
open Go.RowKit
/-- the locator, the evaluator, the error -/
def MakesK (w : World) (s known : List UInt8) (e : Ending) (w' : World) : Prop :=
  ∃ X A O va vo, KeyAns s known X A O ∧ e = .returned (.tuple #[va, vo, .int .i64 X]) ∧ Rd w' va A ∧ Rd w' vo O ∧ Below w.heap.size w w'
theorem MakesK.mk {w w' : World} {s known A O : List UInt8} {X : Int} {va vo : Value} (h : KeyAns s known X A O) (h1 : Rd w' va A) (h2 : Rd w' vo O) (h3 : Below w.heap.size w w') : MakesK w s known (.returned (.tuple #[va, vo, .int .i64 X])) w' := ⟨X, A, O, va, vo, h, rfl, h1, h2, h3⟩
theorem rd9_nil (w : World) : Rd w (.slice none 0 0) [] := Or.inl ⟨none, 0, rfl, rfl, Nat.zero_le _, fun _ => rfl⟩
/-- What a call that answers bytes leaves. -/
def MakesV (w : World) (p : List UInt8) (e : Ending) (w' : World) : Prop := ∃ v, e = .returned v ∧ Rd w' v p ∧ Below w.heap.size w w'
/-- the first numbers, from the end on -/
def revF (s : List UInt8) (i : Nat) : UInt8 := co s (s.length - 1 - i)
theorem rev_upto (s : List UInt8) : upto (revF s) s.length = s.reverse := by
  refine co_ext (by rw [upto_length, List.length_reverse]) fun i hi => ?_
  rw [upto_length] at hi
  rw [upto, co_map_range _ hi, co_rev hi]; rfl
/-- turned number by number: the first i are laid, at the end -/
def tnF (s : List UInt8) (i j : Nat) : UInt8 := if s.length - i ≤ j then revF s j else 0
theorem tnF_zero (s : List UInt8) {j : Nat} (h : j < s.length) : tnF s 0 j = 0 := if_neg (by omega)
theorem tnF_step (s : List UInt8) {i : Nat} (h : i < s.length) (j : Nat) : tnF s (i + 1) j = if j = s.length - 1 - i then co s i else tnF s i j := by
  unfold tnF
  by_cases e : j = s.length - 1 - i
  · rw [if_pos e, if_pos (by omega)]
    unfold revF
    rw [e, show s.length - 1 - (s.length - 1 - i) = i by omega]
  · rw [if_neg e]
    by_cases h2 : s.length - i ≤ j
    · rw [if_pos h2, if_pos (by omega)]
    · rw [if_neg h2, if_neg (by omega)]
theorem tnF_all (s : List UInt8) : upto (tnF s s.length) s.length = s.reverse := by
  rw [← rev_upto]
  exact upto_congr fun j hj => if_pos (by omega)
/-- what lies behind the first m bytes -/
theorem Rd.behind {w : World} {b off n c m k : Nat} {p : List UInt8} (h : Rd w (.slice (some ⟨b, off, none⟩) n c) p) (hm : m < p.length) (hk : k = p.length - m) : Rd w (.slice (some ⟨b, off + m, none⟩) k (c - m)) (p.drop m) := by
  rcases h with ⟨a, c', e, _⟩ | ⟨b', off', c', h1, h2, h3, h4, h5, h6⟩
  · subst e; simp at hm
  · simp at h2
    obtain ⟨⟨rfl, rfl⟩, rfl, rfl⟩ := h2
    subst hk
    have hl : (p.drop m).length = p.length - m := List.length_drop
    refine Or.inr ⟨b, off + m, c - m, fun e => by rw [e] at hl; simp at hl; omega, by rw [hl], by rw [hl]; omega, by omega, h5, fun i hi => ?_⟩
    rw [hl] at hi
    have e1 : co (p.drop m) i = co p (m + i) := by unfold co; rw [List.getElem?_drop]
    rw [e1, Nat.add_assoc]
    exact h6 (m + i) (by omega)
theorem Rd.spot9 {w : World} {v : Value} {p : List UInt8} (h : Rd w v p) (h0 : 0 < p.length) : ∃ b off c, v = .slice (some ⟨b, off, none⟩) p.length c ∧ p.length ≤ c ∧ c ≤ maxLen := by
  rcases h with ⟨a, c', e, _⟩ | ⟨b', off', c', h1, h2, h3, h4, h5, h6⟩
  · subst e; simp at h0
  · exact ⟨b', off', c', h2, h3, h4⟩
end Go.Proofs.YtddnfhfangfgeaaGreat.Gf

namespace Go.Proofs.YtddnfhfangfgeaaGreat.Gf
set_option linter.unusedVariables false
set_option linter.unusedSimpArgs false
/-- where Euclid's steps stand, as lists; e is known's degree -/
structure EuL (s known : List UInt8) (e : Nat) (r0 r1 v0 v1 : List UInt8) : Prop where
  eu : ∃ a b, Eu (keP s known) s.length (co r0) (co r1) (co v0) (co v1) a b ∧ s.length + e ≤ 2 * b ∧ v1.length = a + 1 ∧ r0.length = b + 1
  n1 : norm r1 = r1
  m1 : norm v1 = v1
theorem norm_tops {p : List UInt8} (h : norm p = p) (h0 : p.length ≠ 0) : co p (p.length - 1) ≠ 0 := by
  have hl : p.length = deg (co p) p.length := by
    have := congrArg List.length h
    unfold norm at this
    rw [mk_length] at this
    exact this.symm
  have := deg_top (co p) p.length (by rw [← hl]; exact h0)
  rwa [← hl] at this
/-- the first numbers of a list, up to the top -/
theorem EuL.start {s known r1 x : List UInt8} {e : Nat} (he : e ≤ s.length) (hx : ∀ i, co x i = if i = s.length then 1 else 0) (hxl : x.length = s.length + 1) (hr : ∀ j, j < s.length → co r1 j = keP s known j) (hrl : r1.length ≤ s.length) (hn : norm r1 = r1) : EuL s known e x r1 [] [1] := by
  refine ⟨⟨0, s.length, ?_, by omega, rfl, hxl⟩, hn, by decide +kernel⟩
  have h := Eu.start (P := keP s known) (r1 := co r1) (m := s.length) (fun j hj => (hr j hj).symm) ((co_fin r1).mono hrl)
  have e1 : co x = fun i => if i = s.length then 1 else 0 := funext hx
  have e2 : co [] = fun _ => (0 : UInt8) := funext co_nil
  have e3 : co [1] = cst 1 := by
    funext j
    cases j with
    | zero => rfl
    | succ j => rw [cst_ne (by omega)]; rfl
  rw [e1, e2, e3]
  exact h
theorem EuL.step {s known r0 r1 v0 v1 q r : List UInt8} {e : Nat} (h : EuL s known e r0 r1 v0 v1) (hb : s.length + e + 2 ≤ 2 * r1.length) (hd : IsDiv r0 r1 q r) : EuL s known e r1 r v1 (addP v0 (mulP q v1)) := by
  obtain ⟨a, b, eu, h2, ha, hb0⟩ := h.eu
  have hne : r1.length ≠ 0 := by omega
  have ht := norm_tops h.n1 hne
  have hf : Fin0 (co r1) (r1.length - 1 + 1) := by rw [show r1.length - 1 + 1 = r1.length by omega]; exact co_fin r1
  have hdb : r1.length - 1 < b := by
    rcases Nat.lt_or_ge (r1.length - 1) b with h | h
    · exact h
    · exact absurd (eu.g1 _ h) ht
  have hless := hd.less
  rw [h.n1] at hless
  -- the quotient's length
  have hqf : Fin0 (co q) (b - (r1.length - 1) + 1) := by
    have hq := co_fin q
    by_cases hq0 : q.length = 0
    · exact hq.mono (by omega)
    · have hqt := norm_tops hd.ns hq0
      have htop := conv_top (f := co q) (g := co r1) (n := q.length - 1) (m := r1.length - 1) (by rw [show q.length - 1 + 1 = q.length by omega]; exact hq) hf
      rcases Nat.lt_or_ge b (q.length - 1 + (r1.length - 1)) with hlt | hge
      · have e1 := hd.eqn (q.length - 1 + (r1.length - 1))
        rw [eu.g0 _ (by omega), htop, co_ge (p := r) (by omega), x_zero] at e1
        exact absurd e1.symm (mu_ne hqt ht)
      · exact hq.mono (by omega)
  have st := eu.step hf ht hd.eqn hqf ((co_fin r).mono (by omega))
  have e1 : co (addP v0 (mulP q v1)) = addF (co v0) (conv (co q) (co v1)) := by rw [co_addP, co_mulP]
  have hl : (addP v0 (mulP q v1)).length = a + (b - (r1.length - 1)) + 1 := by
    unfold addP
    rw [mk_length]
    refine deg_unique (fin_add _ _) ?_ (fun _ => ?_)
    · rw [co_mulP]; exact st.f1
    · rw [co_mulP]; exact st.t1
  refine ⟨⟨a + (b - (r1.length - 1)), r1.length - 1, ?_, by omega, hl, by omega⟩, hd.nr, norm_mk (fin_add _ _)⟩
  rw [e1]
  exact st
/-- what is told at the end -/
theorem EuL.least {s known r0 r1 v0 v1 : List UInt8} {e : Nat} (h : EuL s known e r0 r1 v0 v1) (h1 : 2 * r1.length ≤ s.length + e + 1) (hr : r1.length ≤ e + (v1.length - 1)) :
    v1.length ≠ 0 ∧ co v1 (v1.length - 1) ≠ 0 ∧ LeastLoc (keP s known) s.length e (v1.length - 1) (fun j => mu (iv (co v1 (v1.length - 1))) (co v1 j)) := by
  obtain ⟨a, b, eu, h2, ha, hb0⟩ := h.eu
  have ea : v1.length - 1 = a := by omega
  rw [ea] at hr ⊢
  exact ⟨by omega, eu.t1, eu.least h2 (co_fin r1) h1 ((co_fin r1).mono hr)⟩
theorem EuL.none {s known r0 r1 v0 v1 : List UInt8} {e : Nat} (h : EuL s known e r0 r1 v0 v1) (h1 : 2 * r1.length ≤ s.length + e + 1) (hr : e + (v1.length - 1) < r1.length) : ∀ t L, 2 * t + e ≤ s.length → ¬ IsLoc (keP s known) s.length e t L := by
  obtain ⟨a, b, eu, h2, ha, hb0⟩ := h.eu
  refine eu.none h2 (co_fin r1) h1 fun hf => ?_
  have ea : v1.length - 1 = a := by omega
  rw [ea] at hr
  exact norm_tops h.n1 (by omega) (hf _ (by omega))
theorem EuL.fac {s known r0 r1 v0 v1 : List UInt8} {e : Nat} (h : EuL s known e r0 r1 v0 v1) : 1 ≤ v1.length ∧ v1.length ≤ s.length + 1 ∧ r0.length ≤ s.length + 1 ∧ r1.length < r0.length ∧ 2 * v1.length + e ≤ s.length + 2 := by
  obtain ⟨a, b, eu, h2, ha, hb0⟩ := h.eu
  have := eu.sum
  refine ⟨by omega, by omega, by omega, ?_, by omega⟩
  rcases Nat.lt_or_ge r1.length r0.length with h9 | h9
  · exact h9
  · exact absurd (eu.g1 _ (by omega)) (norm_tops h.n1 (by omega))
/-- a list times the inverse of its top -/
theorem mul_top {v : List UInt8} (h : v.length ≠ 0) (ht : co v (v.length - 1) ≠ 0) : mulP v [iv (co v (v.length - 1))] = upto (fun j => mu (iv (co v (v.length - 1))) (co v j)) (v.length - 1 + 1) := by
  obtain ⟨c, hc⟩ : ∃ c, c = iv (co v (v.length - 1)) := ⟨_, rfl⟩
  have hc0 : c ≠ 0 := fun e => by
    have := mu_iv ht
    rw [← hc, e, mu_zero] at this
    cases this
  rw [← hc]
  have e3 : co [c] = cst c := by
    funext j
    cases j with
    | zero => rfl
    | succ j => rw [cst_ne (by omega)]; rfl
  have e4 : conv (co v) (co [c]) = fun j => mu c (co v j) := by rw [e3, conv_comm, one_conv]
  have hf : Fin0 (fun j => mu c (co v j)) v.length := fun i hi => by show mu c (co v i) = 0; rw [co_ge hi, mu_zero]
  have hl : (mulP v [c]).length = v.length := by
    unfold mulP
    rw [mk_length, e4]
    exact deg_unique (hf.mono (by omega)) hf (fun _ => mu_ne hc0 ht)
  refine co_ext (by rw [hl, upto_length]; omega) fun i hi => ?_
  rw [hl] at hi
  rw [co_mulP, e4, upto, co_map_range _ (by omega)]
end Go.Proofs.YtddnfhfangfgeaaGreat.Gf

namespace Go.Proofs.YtddnfhfangfgeaaGreat.Gf
set_option linter.unusedVariables false
set_option linter.unusedSimpArgs false
open Go.RowKit
/-- q added to f, o places higher -/
def addAt (f : Nat → UInt8) (o : Nat) (q : List UInt8) (t : Nat) : UInt8 := f t ^^^ (if o ≤ t then co q (t - o) else 0)
/-- the first k numbers of it -/
def addK (f : Nat → UInt8) (o : Nat) (q : List UInt8) (k t : Nat) : UInt8 := f t ^^^ (if o ≤ t ∧ t < o + k then co q (t - o) else 0)
theorem addK_zero (f : Nat → UInt8) (o : Nat) (q : List UInt8) : addK f o q 0 = f := by
  funext t; unfold addK; rw [if_neg (by omega), x_zero]
theorem addK_whole (f : Nat → UInt8) (o : Nat) (q : List UInt8) : addK f o q q.length = addAt f o q := by
  funext t; unfold addK addAt
  by_cases h : o ≤ t
  · rw [if_pos h]
    by_cases h2 : t < o + q.length
    · rw [if_pos ⟨h, h2⟩]
    · rw [if_neg (by omega), co_ge (by omega)]
  · rw [if_neg h, if_neg (by omega)]
theorem addK_step (f : Nat → UInt8) (o : Nat) (q : List UInt8) (k t : Nat) : addK f o q (k + 1) t = if t = o + k then addK f o q k (o + k) ^^^ co q k else addK f o q k t := by
  by_cases e : t = o + k
  · subst e
    rw [if_pos rfl]
    unfold addK
    rw [if_pos (by omega), if_neg (by omega), x_zero, show o + k - o = k by omega]
  · rw [if_neg e]
    unfold addK
    by_cases h : o ≤ t ∧ t < o + k
    · rw [if_pos h, if_pos (by omega)]
    · rw [if_neg h, if_neg (by omega)]
def addAll (f : Nat → UInt8) (o : Nat) (ts : List (Value × List UInt8)) : Nat → UInt8 := ts.foldl (fun f x => addAt f o x.2) f
theorem addAll_step (f : Nat → UInt8) (o : Nat) (ts : List (Value × List UInt8)) {j : Nat} {x : Value × List UInt8} (h : ts[j]? = some x) : addAll f o (ts.take (j + 1)) = addAt (addAll f o (ts.take j)) o x.2 := by
  unfold addAll
  rw [List.take_add_one, h]
  simp
set_option maxRecDepth 100000 in
set_option maxHeartbeats 2000000 in
theorem sum_into {w : World} {base u g L C o n c tb tc : Nat} {f : Nat → UInt8} (ts : List (Value × List UInt8)) (hR : RowF w base u g L C f) (ho : o + n ≤ L) (hn : n ≤ 140737488355328) (hL : L ≤ 140737488355328) (htb : tb ≠ g) (htl : ts.length ≤ 1000)
    (hts : ∀ j x, ts[j]? = some x → w.cell? ⟨tb, j, none⟩ = some x.1 ∧ Rd w x.1 x.2 ∧ Apart g x.1 ∧ x.2.length ≤ n) :
    Calls Tryz.prog 203 #[.slice (some ⟨g, o, none⟩) n c, .slice (some ⟨tb, 0, none⟩) ts.length tc] w fun e w' => e = .returned (.tuple #[]) ∧ Only g w w' ∧ RowF w' base u g L C (addAll f o ts) := by
  go_enter Tryz.func203, Tryz.ntmps203
  go_wp2
  go_loopw [9] (fun i wr => ∃ j : Nat, j ≤ ts.length ∧ i = .int .i64 j ∧ Only g w wr ∧ RowF wr base u g L C (addAll f o (ts.take j))) (fun i _ => ts.length - (intOf i).toNat)
  case atStart => exact ⟨0, by omega, rfl, Only.refl _ _, hR⟩
  case round =>
    obtain ⟨j, hj, rfl, hO, hRj⟩ := hrel
    clear hR
    by_cases hlt : j < ts.length
    · obtain ⟨x, hx⟩ : ∃ x, ts[j]? = some x := ⟨_, List.getElem?_eq_getElem hlt⟩
      obtain ⟨c0, hrd, hap, hxl⟩ := hts j x hx
      have HS := addAll_step f o ts hx
      have HS' : Hid _ := HS
      obtain ⟨v, q⟩ := x
      clear HS hts hx
      have c1 : wr.cell? ⟨tb, j, none⟩ = some v := (hO.cell (p := ⟨tb, j, none⟩) htb).trans c0
      clear c0
      obtain ⟨fj, hfj⟩ : ∃ fj, fj = addAll f o (ts.take j) := ⟨_, rfl⟩
      rw [← hfj] at hRj HS'
      clear hfj
      have R0 : RowF wr base u g L C (addK fj o q 0) := by rw [addK_zero]; exact hRj
      clear hRj
      simp only at hrd hap hxl HS'
      rcases hrd with ⟨a, cc, rfl, rfl, hc, hnn⟩ | ⟨b, off, cc, hq0, rfl, h1, h2, h3, hqc⟩
      · go_wp2
        go_loopw [15] (fun i w2 => i = .int .i64 0 ∧ w2 = wr) (fun _ _ => 0)
        case atStart => exact ⟨rfl, rfl⟩
        case round =>
          obtain ⟨rfl, rfl⟩ := hrel
          go_wp2
          go_roundw
          case rel => exact ⟨j + 1, by omega, by go_num, hO, by rw [HS'.out, ← addK_whole]; exact R0⟩
          case measure => simp [intOf]; omega
      · have hb : b ≠ g := by
          rcases hap _ _ _ rfl with e | e
          · exact absurd (List.length_eq_zero_iff.1 e) hq0
          · exact e
        clear hap
        go_wp2
        go_loopw [15] (fun i w2 => ∃ l : Nat, l ≤ q.length ∧ i = .int .i64 l ∧ Only g w w2 ∧ RowF w2 base u g L C (addK fj o q l)) (fun i _ => q.length - (intOf i).toNat)
        case atStart => exact ⟨0, by omega, rfl, hO, R0⟩
        case round =>
          obtain ⟨l, hll, rfl, hO2, hR2⟩ := hrel
          clear R0 hO c1
          by_cases hl3 : l < q.length
          · obtain ⟨t, ht⟩ : ∃ t, Hid (t = o + l) := ⟨_, rfl⟩
            have ht' := ht.out
            have htl2 : t < L := by omega
            have k1 := hR2.cell htl2
            have f1 := hR2.unfrozen t
            have k3 := (hO2.cell (p := ⟨b, off + l, none⟩) hb).trans (hqc l hl3)
            have E := xor_u8 (addK fj o q l t) (co q l)
            have N1 : Hid (RowF (wr.setCell ⟨g, t, none⟩ (.int .u8 (((addK fj o q l t).toNat ^^^ (co q l).toNat : Nat) : Int))) base u g L C (addK fj o q (l + 1))) := by
              rw [← UInt8.toNat_xor]; exact hR2.store htl2 _ (by rw [ht']; exact addK_step fj o q l)
            have N2 : Hid (Only g w (wr.setCell ⟨g, t, none⟩ (.int .u8 (((addK fj o q l t).toNat ^^^ (co q l).toNat : Nat) : Int)))) := hO2.setCell t _
            rw [ht'] at k1 f1 E N1 N2
            clear hqc hR2 hO2 ht ht' htl2
            go_wp2
            go_region
            go_wp2
            go_roundw
            case rel => exact ⟨l + 1, by omega, by go_num, N2.out.drew, N1.out.drew⟩
            case measure => simp [intOf]; omega
          · have e : l = q.length := by omega
            subst e
            clear hqc
            go_wp2
            go_roundw
            case rel => exact ⟨j + 1, by omega, by go_num, hO2, by rw [HS'.out, ← addK_whole]; exact hR2⟩
            case measure => simp [intOf]; omega
    · have e : j = ts.length := by omega
      subst e
      rw [List.take_length] at hRj
      clear hts
      go_wp2
      go_end0
      exact ⟨rfl, hO, hRj⟩
/-- the same where the list of terms has just been made -/
theorem sum_terms {w : World} {base u g L C o n c k kc : Nat} {f : Nat → UInt8} {tt : TypeId} {cs : Array Value} (ts : List (Value × List UInt8)) (hR : RowF w base u g L C f) (ho : o + n ≤ L) (hL : L ≤ 140737488355328) (hcs : cs.toList = ts.map (·.1)) (hk : k = ts.length) (htl : ts.length ≤ 1000)
    (hts : ∀ x ∈ ts, Rd w x.1 x.2 ∧ Apart g x.1 ∧ x.2.length ≤ n) :
    Calls Tryz.prog 203 #[.slice (some ⟨g, o, none⟩) n c, .slice (some ⟨w.heap.size, 0, none⟩) k kc] (w.alloc (.cells cs tt)) fun e w' => e = .returned (.tuple #[]) ∧ Only g (w.alloc (.cells cs tt)) w' ∧ RowF w' base u g L C (addAll f o ts) := by
  subst hk
  have hB : Below w.heap.size w (w.alloc (.cells cs tt)) := (Below.refl _ _).alloc (Nat.le_refl _) _
  have hg := hR.lt
  refine sum_into ts (hR.later hB) ho (by omega) hL (by omega) htl fun j x hx => ?_
  obtain ⟨h1, h2, h3⟩ := hts x (List.mem_of_getElem? hx)
  refine ⟨?_, h1.below hB, h2, h3⟩
  rw [World.cell?_alloc_new, ← Array.getElem?_toList, hcs, List.getElem?_map, hx]
  rfl
end Go.Proofs.YtddnfhfangfgeaaGreat.Gf

namespace Go.Proofs.YtddnfhfangfgeaaGreat.Gf
set_option linter.unusedVariables false
set_option linter.unusedSimpArgs false
open Go.RowKit
theorem addAll_one (v : Value) (p : List UInt8) : addAll (fun _ => 0) 0 [(v, p)] = co p := by
  funext t
  simp [addAll, addAt]
theorem addAll_two (v v' : Value) (p q : List UInt8) : addAll (fun _ => 0) 0 [(v, p), (v', q)] = addF (co p) (co q) := by
  funext t
  simp [addAll, addAt, addF]
set_option maxRecDepth 100000 in
set_option maxHeartbeats 1000000 in
theorem pnorm_own {v : Value} {p : List UInt8} {w : World} (hp : Rd w v p) (hl : p.length ≤ 140737488355328) :
    Calls Tryz.prog 194 #[v] w fun e w' => e = .returned (.slice (some ⟨w.heap.size, 0, none⟩) (norm p).length (norm p).length) ∧ RowF w' w.heap.size 5 w.heap.size (norm p).length (norm p).length (co p) ∧ Below w.heap.size w w' := by
  obtain ⟨i0, hi, hz0, hz1, hz2⟩ := info_parts info_u8
  obtain ⟨ao, c, rfl⟩ := hp.form
  have hP := hp.part
  have hle := norm_length_le p
  have HC := co_norm p
  have HC' : Hid _ := HC
  clear HC
  go_enter Tryz.func194, Tryz.ntmps194
  go_wp2_with fail
  refine (top_any hp hl).mono ?_
  rintro e w ⟨rfl, rfl⟩
  obtain ⟨q, hq⟩ : ∃ q, q = norm p := ⟨_, rfl⟩
  rw [← hq] at hP hle HC'
  simp only [← hq]
  have HQ : Hid (q = norm p) := hq
  clear hq
  go_wp2_with (at_make; go_loud (refine wpList_make_full _ rfl (.tmp 7) (.tmp 7) 36 rfl w.heap.size 5 i0 (.int .u8 0) 1 Tryz.underlying36 hi hz0 hz1 _ _ _ _ q.length rfl rfl (by omega) (by omega) (by rw [hz2]; omega) (by unfold maxLen; omega) (Nat.le_refl _) ?_); intro w1 hown1 hgrow1)
  have R1 := RowF.made hown1
  have B1 : Below w.heap.size w w1 := (Below.refl _ _).grown hgrow1 (Nat.le_refl _) (fun k h => by cases h)
  clear hown1 hgrow1
  have hA : Apart w.heap.size (.slice ao q.length c) := hP.apart (Nat.le_refl _)
  have hP1 := hP.below B1
  go_wp2_with (go_at_call 203; refine (sum_terms [(.slice ao q.length c, q)] R1 (by omega) (by omega) rfl rfl (by simp) (by intro x hx; simp at hx; subst hx; exact ⟨hP1, hA, Nat.le_refl _⟩)).mono ?_; rintro e w' ⟨rfl, hO, hR⟩)
  go_ret
  rw [addAll_one, HC'.out] at hR
  exact ⟨by rw [← HQ.out]; rfl, by rw [← HQ.out]; exact hR, (below_lit B1 _).trans (hO.below (Nat.le_refl _))⟩
theorem pnorm_far {v : Value} {p : List UInt8} {w : World} (hp : Rd w v p) (hl : p.length ≤ 140737488355328) :
    Calls Tryz.prog 194 #[v] w (MakesF w (norm p)) := by
  refine (pnorm_own hp hl).mono ?_
  rintro e w' ⟨rfl, hR, hB⟩
  have e1 : upto (co p) (norm p).length = norm p := co_ext (upto_length _ _) fun i hi => by
    rw [upto_length] at hi; rw [co_norm]; exact co_map_range _ hi
  exact ⟨_, rfl, by have := hR.rd; rwa [e1] at this, hB, far_some (Nat.le_refl _)⟩
theorem pnorm_any {v : Value} {p : List UInt8} {w : World} (hp : Rd w v p) (hl : p.length ≤ 140737488355328) :
    Calls Tryz.prog 194 #[v] w (Makes w (norm p)) := (pnorm_far hp hl).mono fun _ _ h => h.plain
set_option maxRecDepth 100000 in
set_option maxHeartbeats 1000000 in
theorem padd_far {va vq : Value} {p q : List UInt8} {w : World} (hp : Rd w va p) (hq : Rd w vq q) (hl : p.length ≤ 400000) (hl2 : q.length ≤ 400000) :
    Calls Tryz.prog 221 #[va, vq] w (MakesF w (addP p q)) := by
  obtain ⟨i0, hi, hz0, hz1, hz2⟩ := info_parts info_u8
  obtain ⟨ao, c, rfl⟩ := hp.form
  obtain ⟨ao', c', rfl⟩ := hq.form
  obtain ⟨n, hn⟩ : ∃ n, (p.length < q.length ∧ n = q.length) ∨ (¬ p.length < q.length ∧ n = p.length) := by
    by_cases h : p.length < q.length
    · exact ⟨_, Or.inl ⟨h, rfl⟩⟩
    · exact ⟨_, Or.inr ⟨h, rfl⟩⟩
  have hpn : p.length ≤ n := by omega
  have hqn : q.length ≤ n := by omega
  have hnn : n ≤ 400000 := by omega
  have HN : Hid (norm (upto (addF (co p) (co q)) n) = addP p q) := norm_upto (((co_fin p).mono (by omega)).add ((co_fin q).mono (by omega))) (fin_add p q)
  have HU : Hid ((upto (addF (co p) (co q)) n).length = n) := upto_length _ _
  rcases hn with ⟨hlt, rfl⟩ | ⟨hlt, rfl⟩
  · go_enter Tryz.func221, Tryz.ntmps221
    go_wp2_with (at_make; go_loud (refine wpList_make_full _ rfl (.tmp 10) (.tmp 10) 36 rfl w.heap.size 5 i0 (.int .u8 0) 1 Tryz.underlying36 hi hz0 hz1 _ _ _ _ q.length rfl rfl (by omega) (by omega) (by rw [hz2]; omega) (by unfold maxLen; omega) (Nat.le_refl _) ?_); intro w1 hown1 hgrow1)
    have R1 := RowF.made hown1
    have B1 : Below w.heap.size w w1 := (Below.refl _ _).grown hgrow1 (Nat.le_refl _) (fun k h => by cases h)
    clear hown1 hgrow1
    have hA := hp.apart (Nat.le_refl _)
    have hA2 := hq.apart (Nat.le_refl _)
    have hP1 := hp.below B1
    have hQ1 := hq.below B1
    go_wp2_with fail
    refine (sum_terms [(.slice ao p.length c, p), (.slice ao' q.length c', q)] R1 (by omega) (by omega) rfl rfl (by simp) (by intro x hx; simp at hx; rcases hx with rfl | rfl; exact ⟨hP1, hA, hpn⟩; exact ⟨hQ1, hA2, hqn⟩)).mono ?_
    rintro e w' ⟨rfl, hO, hR⟩
    rw [addAll_two] at hR
    have B2 := (below_lit B1 _).trans (hO.below (Nat.le_refl _))
    have hRd := hR.rd
    clear hR hO hP1 hQ1
    have hRN := hRd.part
    go_wp2_with fail
    refine (top_any hRd (by rw [HU.out]; omega)).mono ?_
    rintro e w'' ⟨rfl, rfl⟩
    go_wp2
    go_ret
    rw [← HN.out]
    exact ⟨_, rfl, hRN, B2, far_some (Nat.le_refl _)⟩
  · go_enter Tryz.func221, Tryz.ntmps221
    go_wp2_with (at_make; go_loud (refine wpList_make_full _ rfl (.tmp 10) (.tmp 10) 36 rfl w.heap.size 5 i0 (.int .u8 0) 1 Tryz.underlying36 hi hz0 hz1 _ _ _ _ p.length rfl rfl (by omega) (by omega) (by rw [hz2]; omega) (by unfold maxLen; omega) (Nat.le_refl _) ?_); intro w1 hown1 hgrow1)
    have R1 := RowF.made hown1
    have B1 : Below w.heap.size w w1 := (Below.refl _ _).grown hgrow1 (Nat.le_refl _) (fun k h => by cases h)
    clear hown1 hgrow1
    have hA := hp.apart (Nat.le_refl _)
    have hA2 := hq.apart (Nat.le_refl _)
    have hP1 := hp.below B1
    have hQ1 := hq.below B1
    go_wp2_with fail
    refine (sum_terms [(.slice ao p.length c, p), (.slice ao' q.length c', q)] R1 (by omega) (by omega) rfl rfl (by simp) (by intro x hx; simp at hx; rcases hx with rfl | rfl; exact ⟨hP1, hA, hpn⟩; exact ⟨hQ1, hA2, hqn⟩)).mono ?_
    rintro e w' ⟨rfl, hO, hR⟩
    rw [addAll_two] at hR
    have B2 := (below_lit B1 _).trans (hO.below (Nat.le_refl _))
    have hRd := hR.rd
    clear hR hO hP1 hQ1
    have hRN := hRd.part
    go_wp2_with fail
    refine (top_any hRd (by rw [HU.out]; omega)).mono ?_
    rintro e w'' ⟨rfl, rfl⟩
    go_wp2
    go_ret
    rw [← HN.out]
    exact ⟨_, rfl, hRN, B2, far_some (Nat.le_refl _)⟩
end Go.Proofs.YtddnfhfangfgeaaGreat.Gf

namespace Go.Proofs.YtddnfhfangfgeaaGreat.Gf
set_option linter.unusedVariables false
set_option linter.unusedSimpArgs false
open Go.RowKit
/-- the first k multiples -/
def tk (q : Nat → UInt8) (a : UInt8) (k t : Nat) : UInt8 := if t < k then mu (q t) a else 0
theorem tk_zero (q : Nat → UInt8) (a : UInt8) (t : Nat) : tk q a 0 t = 0 := if_neg (by omega)
theorem tk_step (q : Nat → UInt8) (a : UInt8) (k t : Nat) : tk q a (k + 1) t = if t = k then mu (q k) a else tk q a k t := by
  unfold tk
  by_cases e : t = k
  · subst e; rw [if_pos (by omega), if_pos rfl]
  · rw [if_neg e]
    by_cases h2 : t < k
    · rw [if_pos h2, if_pos (by omega)]
    · rw [if_neg h2, if_neg (by omega)]
def mulBy (q : List UInt8) (a : UInt8) : List UInt8 := upto (fun t => mu (co q t) a) q.length
theorem mulBy_length (q : List UInt8) (a : UInt8) : (mulBy q a).length = q.length := upto_length _ _
theorem co_mulBy (q : List UInt8) (a : UInt8) (t : Nat) : co (mulBy q a) t = mu (co q t) a :=
  co_upto (k := q.length) (f := fun t => mu (co q t) a) (fun i hi => by show mu (co q i) a = 0; rw [co_ge hi, zero_mu]) t
set_option maxRecDepth 100000 in
set_option maxHeartbeats 1000000 in
theorem times_main (b b' off' c' : Nat) (q : List UInt8) (a : UInt8) (w : World) (hF : FieldAt w b) (hl : q.length ≤ 400000) (hb : b' < w.heap.size)
    (hqc : ∀ i, i < q.length → w.cell? ⟨b', off' + i, none⟩ = some (.int .u8 ((co q i).toNat : Nat))) :
    Calls Tryz.prog 204 #[.pointer (some ⟨b, 0, none⟩), .slice (some ⟨b', off', none⟩) q.length c', .int .u8 ((a.toNat : Nat) : Int)] w fun e w' =>
      e = .returned (.slice (some ⟨w.heap.size, 0, none⟩) q.length q.length) ∧ RowF w' w.heap.size 5 w.heap.size q.length q.length (fun t => mu (co q t) a) ∧ Below w.heap.size w w' := by
  obtain ⟨i0, hi, hz0, hz1, hz2⟩ := info_parts info_u8
  go_enter Tryz.func204, Tryz.ntmps204
  go_wp2_with (at_make; go_loud (refine wpList_make_full _ rfl (.tmp 10) (.tmp 10) 36 rfl w.heap.size 5 i0 (.int .u8 0) 1 Tryz.underlying36 hi hz0 hz1 _ _ _ _ q.length rfl rfl (by omega) (by omega) (by rw [hz2]; omega) (by unfold maxLen; omega) (Nat.le_refl _) ?_); intro w1 hown1 hgrow1)
  have R1 := RowF.made hown1
  have B1 : Below w.heap.size w w1 := (Below.refl _ _).grown hgrow1 (Nat.le_refl _) (fun k h => by cases h)
  clear hown1 hgrow1
  go_loopw [14] (fun i wr => ∃ k : Nat, k ≤ q.length ∧ i = .int .i64 k ∧ RowF wr w.heap.size 5 w.heap.size q.length q.length (tk (co q) a k) ∧ Below w.heap.size w wr) (fun i _ => q.length - (intOf i).toNat)
  case atStart => exact ⟨0, by omega, rfl, R1.congr (fun t _ => (tk_zero _ _ t).symm), B1⟩
  case round =>
    obtain ⟨k, hk, rfl, hR, hB⟩ := hrel
    clear R1 B1
    by_cases hlt : k < q.length
    · have c1 := (hB.cell (p := ⟨b', off' + k, none⟩) hb).trans (hqc k hlt)
      have hF1 := hF.below hB
      clear hqc
      go_wp2_with fail
      refine (fmu_at hF1 (co q k) a rfl rfl).mono ?_
      rintro e w2 ⟨rfl, hb2⟩
      have hR2 := hR.later hb2
      have hB2 := Below.next hB hb2
      have c2 := hR2.cell hlt
      have f1 := hR2.unfrozen k
      have N1 : Hid _ := hR2.store hlt (mu (co q k) a) (tk_step (co q) a k)
      have N2 : Hid _ := hB2.setCell (p := ⟨w.heap.size, k, none⟩) (Nat.le_refl _) (.int .u8 (((mu (co q k) a).toNat : Nat) : Int))
      clear hR hR2 hB hB2 hb2 hF1
      go_wp2
      go_roundw
      case rel => exact ⟨k + 1, by omega, by go_num, N1.out, N2.out⟩
      case measure => simp [intOf]; omega
    · have e : k = q.length := by omega
      subst e
      clear hqc
      go_wp2
      go_ret
      exact ⟨rfl, hR.congr (fun t ht => if_pos ht), hB⟩
set_option maxRecDepth 100000 in
set_option maxHeartbeats 1000000 in
theorem times_nil (v1 : Value) (ao : Option Addr) (c' : Nat) (y : Int) (w : World) :
    Calls Tryz.prog 204 #[v1, .slice ao 0 c', .int .u8 y] w fun e w' => e = .returned (.slice (some ⟨w.heap.size, 0, none⟩) 0 0) ∧ RowF w' w.heap.size 5 w.heap.size 0 0 (fun _ => 0) ∧ Below w.heap.size w w' := by
  obtain ⟨i0, hi, hz0, hz1, hz2⟩ := info_parts info_u8
  go_enter Tryz.func204, Tryz.ntmps204
  go_wp2_with (at_make; go_loud (refine wpList_make_full _ rfl (.tmp 10) (.tmp 10) 36 rfl w.heap.size 5 i0 (.int .u8 0) 1 Tryz.underlying36 hi hz0 hz1 _ _ _ _ 0 rfl rfl (by omega) (by omega) (by rw [hz2]; omega) (by unfold maxLen; omega) (Nat.le_refl _) ?_); intro w1 hown1 hgrow1)
  have R1 := RowF.made hown1
  have B1 : Below w.heap.size w w1 := (Below.refl _ _).grown hgrow1 (Nat.le_refl _) (fun k h => by cases h)
  clear hown1 hgrow1
  go_loop [14] (fun i => i = .int .i64 0) (fun _ => 0)
  case atStart => rfl
  case round =>
    subst hrel
    go_wp2
    go_ret
    exact ⟨rfl, R1, B1⟩
theorem times_any {b n c : Nat} {ao : Option Addr} {q : List UInt8} {w : World} (hF : FieldAt w b) (hq : Rd w (.slice ao n c) q) (hl : q.length ≤ 400000) (a : UInt8) {y : Int} (hy : y = ((a.toNat : Nat) : Int)) :
    Calls Tryz.prog 204 #[.pointer (some ⟨b, 0, none⟩), .slice ao n c, .int .u8 y] w fun e w' =>
      e = .returned (.slice (some ⟨w.heap.size, 0, none⟩) n n) ∧ Rd w' (.slice (some ⟨w.heap.size, 0, none⟩) n n) (mulBy q a) ∧ Below w.heap.size w w' := by
  subst hy
  have hn := hq.n
  subst hn
  rcases hq with ⟨a', c', rfl, e2, hc, hn⟩ | ⟨b', off', c', hp0, e2, h1, h2, h3, hqc⟩
  · refine (times_nil _ _ _ _ w).mono ?_
    rintro e w' ⟨rfl, hR, hB⟩
    exact ⟨rfl, hR.rd, hB⟩
  · simp at e2; obtain ⟨rfl, rfl⟩ := e2
    refine (times_main b b' off' _ q a w hF hl h3 hqc).mono ?_
    rintro e w' ⟨rfl, hR, hB⟩
    exact ⟨rfl, hR.rd, hB⟩
end Go.Proofs.YtddnfhfangfgeaaGreat.Gf

namespace Go.Proofs.YtddnfhfangfgeaaGreat.Gf
set_option linter.unusedVariables false
set_option linter.unusedSimpArgs false
open Go.RowKit
theorem pmulP_empty {p q : List UInt8} (h : norm p = [] ∨ norm q = []) : mulP p q = [] := by
  have e := mulP_length p q
  rw [if_pos (by rcases h with h | h <;> simp [h])] at e
  exact List.length_eq_zero_iff.1 e
set_option maxRecDepth 100000 in
set_option maxHeartbeats 1000000 in
theorem pmul_empty {b : Nat} {va vq : Value} {p q : List UInt8} {w : World} (hp : Rd w va p) (hq : Rd w vq q) (hl : p.length ≤ 400000) (hl2 : q.length ≤ 400000) (h : norm p = [] ∨ norm q = []) :
    Calls Tryz.prog 173 #[.pointer (some ⟨b, 0, none⟩), va, vq] w (MakesF w (mulP p q)) := by
  rw [pmulP_empty h]
  obtain ⟨ao, c, rfl⟩ := hp.form
  obtain ⟨ao', c', rfl⟩ := hq.form
  have h' : (norm p).length = 0 ∨ ((norm p).length ≠ 0 ∧ (norm q).length = 0) := by
    by_cases h1 : (norm p).length = 0
    · exact Or.inl h1
    · rcases h with h | h
      · rw [h] at h1; exact absurd rfl h1
      · exact Or.inr ⟨h1, by rw [h]; rfl⟩
  clear h
  go_enter Tryz.func173, Tryz.ntmps173
  go_wp2_with fail
  refine (top_any hp (by omega)).mono ?_
  rintro e w ⟨rfl, rfl⟩
  go_wp2_with fail
  refine (top_any hq (by omega)).mono ?_
  rintro e w ⟨rfl, rfl⟩
  generalize (norm p).length = n at h' ⊢
  generalize (norm q).length = m at h' ⊢
  rcases h' with rfl | ⟨h1, rfl⟩
  · go_wp2
    go_ret
    exact ⟨_, rfl, rd_nil_any, Below.refl _ _, far_none⟩
  · have h2 : ((n : Int) == 0) = false := by simp; omega
    go_wp2
    go_ret
    exact ⟨_, rfl, rd_nil_any, Below.refl _ _, far_none⟩
theorem pc_step (v : Value) (p q : List UInt8) (k : Nat) : addAll (pc (co p) (co q) k) k [(v, mulBy q (co p k))] = pc (co p) (co q) (k + 1) := by
  funext t
  show pc (co p) (co q) k t ^^^ (if k ≤ t then co (mulBy q (co p k)) (t - k) else 0) = _
  rw [co_mulBy, mu_comm]
  rfl
set_option maxRecDepth 100000 in
set_option maxHeartbeats 2000000 in
theorem pmul_main {b : Nat} {va vq : Value} {p q : List UInt8} {w : World} (hF : FieldAt w b) (hp : Rd w va p) (hq : Rd w vq q) (hl : p.length ≤ 400000) (hl2 : q.length ≤ 400000) (h1 : norm p ≠ []) (h2 : norm q ≠ []) :
    Calls Tryz.prog 173 #[.pointer (some ⟨b, 0, none⟩), va, vq] w (MakesF w (mulP p q)) := by
  obtain ⟨i0, hi, hz0, hz1, hz2⟩ := info_parts info_u8
  obtain ⟨ao, c, rfl⟩ := hp.form
  obtain ⟨ao', c', rfl⟩ := hq.form
  have hP := hp.part
  have hQ := hq.part
  have hle := norm_length_le p
  have hle2 := norm_length_le q
  have hL := mulP_length p q
  have hpos : 0 < (norm p).length := List.length_pos_iff.2 h1
  have hpos2 : 0 < (norm q).length := List.length_pos_iff.2 h2
  rw [if_neg (by omega)] at hL
  have HM : Hid (upto (conv (co (norm p)) (co (norm q))) ((norm p).length + (norm q).length - 1) = mulP p q) := by
    show _ = _
    rw [co_norm, co_norm, ← hL]
    refine co_ext (upto_length _ _) fun i hi => ?_
    rw [upto_length] at hi
    rw [co_mulP]
    exact co_map_range _ hi
  go_enter Tryz.func173, Tryz.ntmps173
  go_wp2_with fail
  refine (top_any hp (by omega)).mono ?_
  rintro e w ⟨rfl, rfl⟩
  go_wp2_with fail
  refine (top_any hq (by omega)).mono ?_
  rintro e w ⟨rfl, rfl⟩
  generalize norm p = p' at *
  generalize norm q = q' at *
  clear hp hq h1 h2 hL
  obtain ⟨L, hL⟩ : ∃ L, Hid (L = p'.length + q'.length - 1) := ⟨_, rfl⟩
  rw [← hL.out] at HM
  have hL' := hL.out
  have g0 : ((p'.length : Int) == 0) = false := by rw [beq_eq_false_iff_ne]; omega
  have g1 : ((q'.length : Int) == 0) = false := by rw [beq_eq_false_iff_ne]; omega
  have g2 : (p'.length : Int) + (q'.length : Int) - 1 = (L : Int) := by omega
  clear hL'
  go_wp2_with (at_make; go_loud (refine wpList_make_full _ rfl (.tmp 30) (.tmp 30) 36 rfl w.heap.size 5 i0 (.int .u8 0) 1 Tryz.underlying36 hi hz0 hz1 _ _ _ _ L rfl rfl (by omega) (by omega) (by rw [hz2]; omega) (by unfold maxLen; omega) (Nat.le_refl _) ?_); intro w1 hown1 hgrow1)
  have R1 := RowF.made hown1
  have B1 : Below w.heap.size w w1 := (Below.refl _ _).grown hgrow1 (Nat.le_refl _) (fun k h => by cases h)
  clear hown1 hgrow1
  go_loopw [34] (fun i wr => ∃ k : Nat, k ≤ p'.length ∧ i = .int .i64 k ∧ RowF wr w.heap.size 5 w.heap.size L L (pc (co p') (co q') k) ∧ Below w.heap.size w wr) (fun i _ => p'.length - (intOf i).toNat)
  case atStart => exact ⟨0, by omega, rfl, R1.congr (fun t _ => rfl), B1⟩
  case round =>
    obtain ⟨k, hk, rfl, hR, hB⟩ := hrel
    clear R1 B1
    by_cases hlt : k < p'.length
    · rcases hP with ⟨a, cc, e1, e2, hc, hnn⟩ | ⟨bb, off, cc, hq0, e2, h1, h2, h3, hpc⟩
      · subst e1; simp at hlt
      · simp at e2; obtain ⟨rfl, rfl⟩ := e2
        have hLL := hL.out
        have c1 := (hB.cell (p := ⟨bb, off + k, none⟩) h3).trans (hpc k hlt)
        have hF1 : FieldAt wr.drew b := hF.below hB.drew
        have hQ1 : Rd wr.drew (.slice ao' q'.length c') q' := hQ.below hB.drew
        have hR1 := hR.drew
        have hlt2 := hR.lt
        have hAp : ∀ n c, Apart w.heap.size (.slice (some ⟨wr.drew.heap.size, 0, none⟩) n c) := fun n c => apart_block (by show wr.heap.size ≠ w.heap.size; omega)
        have hkl : k ≤ L := by omega
        have hkq : q'.length ≤ L - k := by omega
        have hkk : k + (L - k) ≤ L := by omega
        have hL9 : L ≤ 140737488355328 := by omega
        have HP : Hid _ := fun v => pc_step v p' q' k
        clear hpc hR hLL hlt2
        go_wp2
        go_region_with (first
          | (go_at_call 204; refine (times_any hF1 hQ1 (by omega) (co p' k) rfl).mono ?_; rintro e w2 ⟨rfl, hT, hb2⟩)
          | (go_at_call 203; refine (sum_terms [(_, mulBy q' (co p' k))] (hR1.later hb2) hkk hL9 rfl rfl (by simp) (by intro x hx; simp at hx; subst hx; exact ⟨hT, hAp _ _, by rw [mulBy_length]; exact hkq⟩)).mono ?_; rintro e w3 ⟨rfl, hO, hR3⟩))
        all_goals go_wp2
        all_goals
          go_roundw
          case rel => exact ⟨k + 1, by omega, by go_num, by rw [← HP.out _]; exact hR3, (below_lit (Below.next hB.drew hb2) _).trans (hO.below (Nat.le_refl _))⟩
          case measure => simp [intOf]; omega
    · have e : k = p'.length := by omega
      subst e
      rw [pc_whole (co_fin p')] at hR
      have hRd := hR.rd
      rw [HM.out] at hRd
      clear hR
      go_wp2
      go_ret
      exact ⟨_, rfl, hRd, hB, far_some (Nat.le_refl _)⟩
theorem pmul_far {b : Nat} {va vq : Value} {p q : List UInt8} {w : World} (hF : FieldAt w b) (hp : Rd w va p) (hq : Rd w vq q) (hl : p.length ≤ 400000) (hl2 : q.length ≤ 400000) :
    Calls Tryz.prog 173 #[.pointer (some ⟨b, 0, none⟩), va, vq] w (MakesF w (mulP p q)) := by
  by_cases h1 : norm p = []
  · exact pmul_empty hp hq hl hl2 (Or.inl h1)
  · by_cases h2 : norm q = []
    · exact pmul_empty hp hq hl hl2 (Or.inr h2)
    · exact pmul_main hF hp hq hl hl2 h1 h2
theorem pmul_any {b : Nat} {va vq : Value} {p q : List UInt8} {w : World} (hF : FieldAt w b) (hp : Rd w va p) (hq : Rd w vq q) (hl : p.length ≤ 400000) (hl2 : q.length ≤ 400000) :
    Calls Tryz.prog 173 #[.pointer (some ⟨b, 0, none⟩), va, vq] w (Makes w (mulP p q)) := (pmul_far hF hp hq hl hl2).mono fun _ _ h => h.plain
end Go.Proofs.YtddnfhfangfgeaaGreat.Gf

