/- TEXTS JOINED: WdCB, WdRefN, WdCC. -/
import Derived.Test.YtddnfhfangfgeaaGreatChecked
import GoSem.Claim
import GoSem.ClaimJoined
import GoSem.ClaimMapViews
import Derived.JoinedTies
import Derived.KernelRfl
import Derived.WalkKit
import Derived.Deep.QuietTactic
import Derived.BigQuiet
import Derived.WalkLawsBesides
import Derived.WalkSpells
import Derived.OpenShut
import Derived.Deep.AppendLies
import Derived.Laws.CopyOwn
import Derived.Laws.AppendOwnNone
import Derived.Deep.RegionHeld3
import Derived.WalkMore
import Derived.Test.YtddnfhfangfgeaaGreatRows
import Derived.Test.YtddnfhfangfgeaaGreatTome1
import Derived.Test.YtddnfhfangfgeaaGreatTome2
import Derived.Test.YtddnfhfangfgeaaGreatTome6
import Derived.Test.YtddnfhfangfgeaaGreatTome3
import Derived.Test.YtddnfhfangfgeaaGreatTome10
import Derived.Test.YtddnfhfangfgeaaGreatTome9
import Derived.Test.YtddnfhfangfgeaaGreatTome11
import Derived.Test.YtddnfhfangfgeaaGreatTome13
import Derived.Test.YtddnfhfangfgeaaGreatTome20
import Derived.Test.YtddnfhfangfgeaaGreatTome21
import Derived.Test.YtddnfhfangfgeaaGreatTome4
import Derived.Lib.SliceRun
import Derived.Test.YtddnfhfangfgeaaGreatTome8
namespace Go.Proofs.YtddnfhfangfgeaaGreat.Gf
set_option linter.unusedVariables false
set_option linter.unusedSimpArgs false
open Go.RowKit
set_option maxRecDepth 100000 in
set_option maxHeartbeats 2000000 in
theorem ert_any {b : Nat} {vp vm : Value} {p : List UInt8} {ms : List Bool} {w : World} (hF : FieldAt w b) (hp : Rd w vp p) (hm : RdB w vm ms) (hl : ms.length ≤ 256) (hl2 : p.length ≤ 1000) :
    Calls Tryz.prog 170 #[.pointer (some ⟨b, 0, none⟩), vp, vm] w fun e w' => ∃ v, e = .returned v ∧ OwnI w' w.heap.size 3 v (plc (rtF p (hb ms)) ms.length) ∧ Below w.heap.size w w' := by
  obtain ⟨i0, hi, hz0, hz1, hz2⟩ := info_parts info_int10
  obtain ⟨a, c, rfl⟩ := hm.form
  obtain ⟨a2, c2, rfl⟩ := hp.form
  go_enter Tryz.func170, Tryz.ntmps170
  go_wp2
  go_loopw [7, 12] (fun o i wr => ∃ r : Nat, r ≤ ms.length ∧ i = .int .i64 r ∧ OwnI wr w.heap.size 3 o (plc (rtF p (hb ms)) r) ∧ Below w.heap.size w wr) (fun _ i _ => ms.length - (intOf i).toNat)
  case atStart => exact ⟨0, by omega, rfl, OwnI.nil _ _ _, Below.refl _ _⟩
  case round =>
    obtain ⟨r, hr, rfl, hO, hB⟩ := hrel
    have hsz := hB.size
    have hn : Hid ((plc (rtF p (hb ms)) r).length ≤ 300) := by show _ ≤ _; rw [plc_length]; have := cnt_le (rtF p (hb ms)) r; omega
    by_cases hlt : r < ms.length
    · obtain ⟨bb, off, rfl, _, c1⟩ := (hm.below hB).at hlt
      have hlt' : (r : Int) < (ms.length : Int) := by omega
      obtain ⟨av, cv, rfl⟩ := hO.form
      have E := plc_succ (rtF p (hb ms)) r
      cases e : hb ms r with
      | true =>
        rw [e] at c1
        have E' : Hid (plc (rtF p (hb ms)) (r + 1) = plc (rtF p (hb ms)) r) := by show _ = _; rw [E]; simp [rtF, e]
        clear hm hp e E
        go_wp2
        go_roundw
        case rel => exact ⟨r + 1, by omega, by go_num, by rw [E'.out]; exact hO, hB⟩
        case measure => simp [intOf]; omega
      | false =>
        rw [e] at c1
        have hr2 : r < 256 := by omega
        have m1 : Hid ((r : Int) = (((pt r).toNat : Nat) : Int)) := by show _ = _; rw [pt_toNat hr2]
        have hpr := hp.below hB
        have hFr := hF.below hB
        by_cases hv : evP p (pt r) = 0
        · have E' : Hid (plc (rtF p (hb ms)) (r + 1) = plc (rtF p (hb ms)) r ++ [r]) := by show _ = _; rw [E]; simp [rtF, e, hv]
          have hq : ((((evP p (pt r)).toNat : Nat) : Int) == 0) = true := by rw [eq_u8_zero]; exact decide_eq_true hv
          clear hm hp e E hF hv
          go_wp2_with fail
          refine (peval_quiet hFr hpr (pt r) m1.out (by omega)).mono ?_
          rintro e w2 ⟨rfl, n2, hw2⟩
          have hO2 : OwnI w2 w.heap.size 3 (.slice av (plc (rtF p (hb ms)) r).length cv) (plc (rtF p (hb ms)) r) := by rw [hw2]; exact hO
          have hB2 : Below w.heap.size w w2 := by rw [hw2]; exact hB.drewN _
          have hsz2 := hB2.size
          clear hw2 hO hB hFr hpr c1
          go_wp2_with (at_builtin; go_loud (refine wpList_append_int rfl (.tmp 27) (.tmp 29) 45 rfl w.heap.size 3 i0 Tryz.underlying45 hi hz0 hz1 hz2 (.slice av (plc (rtF p (hb ms)) r).length cv) (plc (rtF p (hb ms)) r) rfl hO2 r _ 1 rfl (by have := hn.out; omega) hsz2 ?_); intro v' w3 hv2 hb2)
          have HO : Hid (OwnI w3 w.heap.size 3 v' (plc (rtF p (hb ms)) (r + 1))) := by show OwnI _ _ _ _ _; rw [E'.out]; exact hv2
          have HB : Hid (Below w.heap.size w w3) := hB2.trans hb2
          clear hO2 hv2 hb2 hB2 hq
          go_wp2
          go_roundw
          case rel => exact ⟨r + 1, by omega, by go_num, HO.out, HB.out⟩
          case measure => simp [intOf]; omega
        · have E' : Hid (plc (rtF p (hb ms)) (r + 1) = plc (rtF p (hb ms)) r) := by show _ = _; rw [E]; simp [rtF, e, hv]
          have hq : ((((evP p (pt r)).toNat : Nat) : Int) == 0) = false := by rw [eq_u8_zero]; exact decide_eq_false hv
          clear hm hp e E hF hv
          go_wp2_with fail
          refine (peval_quiet hFr hpr (pt r) m1.out (by omega)).mono ?_
          rintro e w2 ⟨rfl, n2, hw2⟩
          have hO2 : Hid (OwnI w2 w.heap.size 3 (.slice av (plc (rtF p (hb ms)) r).length cv) (plc (rtF p (hb ms)) (r + 1))) := by show OwnI _ _ _ _ _; rw [hw2, E'.out]; exact hO
          have hB2 : Hid (Below w.heap.size w w2) := by show Below _ _ _; rw [hw2]; exact hB.drewN _
          clear hw2 hO hB hFr hpr c1
          go_wp2
          go_roundw
          case rel => exact ⟨r + 1, by omega, by go_num, hO2.out, hB2.out⟩
          case measure => simp [intOf]; omega
    · have e : r = ms.length := by omega
      subst e
      have hge : ¬ (ms.length : Int) < (ms.length : Int) := by omega
      clear hm hp
      go_wp2
      try rw [Exit.noGoto_ret]
      go_ret
      exact ⟨_, rfl, hO, hB⟩
/-- what 'differing' lays: its four variables -/
structure Df10 (w : World) (b fb sb wb eb : Nat) (vs vw ve : Value) : Prop where
  cf : w.cell? ⟨fb, 0, none⟩ = some (.pointer (some ⟨b, 0, none⟩))
  cs : w.cell? ⟨sb, 0, none⟩ = some vs
  cw : w.cell? ⟨wb, 0, none⟩ = some vw
  ce : w.cell? ⟨eb, 0, none⟩ = some ve
  lf : fb < w.heap.size
  ls : sb < w.heap.size
  lw : wb < w.heap.size
  le : eb < w.heap.size
set_option maxRecDepth 100000 in
set_option maxHeartbeats 1000000 in
theorem edif_any {b n1 n2 n3 c1 c2 c3 : Nat} {a1 a2 a3 : Option Addr} (w : World) : Calls Tryz.prog 171 #[.pointer (some ⟨b, 0, none⟩), .slice a1 n1 c1, .slice a2 n2 c2, .slice a3 n3 c3] w fun e w' =>
    ∃ fb sb wb eb, e = .returned (.func (.func 200) #[] #[.pointer (some ⟨fb, 0, none⟩), .pointer (some ⟨sb, 0, none⟩), .pointer (some ⟨wb, 0, none⟩), .pointer (some ⟨eb, 0, none⟩)]) ∧ Df10 w' b fb sb wb eb (.slice a3 n3 c3) (.slice a1 n1 c1) (.slice a2 n2 c2) ∧ Below w.heap.size w w' := by
  go_enter Tryz.func171, Tryz.ntmps171
  go_wp2
  go_ret
  refine ⟨w.heap.size, w.heap.size + 1 + 1 + 1, w.heap.size + 1, w.heap.size + 1 + 1, rfl, ⟨by go_simp, by go_simp, by go_simp, by go_simp, by simp <;> omega, by simp <;> omega, by simp <;> omega, by simp <;> omega⟩, by repeat (first | exact Below.refl _ _ | apply below_lit)⟩
set_option maxRecDepth 100000 in
set_option maxHeartbeats 4000000 in
/-- by how much a byte differs -/
theorem edif1_any {w : World} {b fb sb wb eb k m i : Nat} {vs vw ve : Value} {D O : List UInt8} (hF : FieldAt w b) (hD : Df10 w b fb sb wb eb vs vw ve) (hs : Rd w vs D) (hw : Rd w vw (upto (wtF k m) (k + m))) (he : Rd w ve O) (hi : i < k + m) (h2 : k + m ≤ 256) (hl : D.length ≤ 1000) (hl2 : O.length ≤ 1000) {x : Int} (hx : x = (i : Int)) :
    Calls Tryz.prog 200 #[.int .i64 x, .pointer (some ⟨fb, 0, none⟩), .pointer (some ⟨sb, 0, none⟩), .pointer (some ⟨wb, 0, none⟩), .pointer (some ⟨eb, 0, none⟩)] w fun e w' => e = .returned (.int .u8 (((dfF k m O D i).toNat : Nat) : Int)) ∧ ∃ n, w' = w.drewN n := by
  subst hx
  have hr2 : i < 256 := by omega
  have m1 : Hid ((i : Int) = (((pt i).toNat : Nat) : Int)) := by show _ = _; rw [pt_toNat hr2]
  obtain ⟨sa, sc, rfl⟩ := hs.form
  obtain ⟨ea, ec, rfl⟩ := he.form
  obtain ⟨wa, wc, rfl⟩ := hw.form
  rw [upto_length] at hw hD
  obtain ⟨wbb, wo, rfl, hwb, cw1⟩ := hw.byte (i := i) (by rw [upto_length]; exact hi)
  rw [co_upto_in hi] at cw1
  obtain ⟨N, hN⟩ : ∃ N, Hid (N = k + m) := ⟨_, rfl⟩
  rw [← hN.out] at hw hD hi
  have hi' : (i : Int) < (N : Int) := by omega
  obtain ⟨cf, cs, cw, ce, _, _, _, _⟩ := hD
  obtain ⟨W, hW⟩ : ∃ W, Hid (W = wtF k m i) := ⟨_, rfl⟩
  rw [← hW.out] at cw1
  clear hw
  go_enter Tryz.func200, Tryz.ntmps200
  go_wp2_with fail
  go_quiet (first
    | (go_at_call 199; go_loud (exact Calls.quiet_of (peval_quiet (hF.drewN _) (Rd.drewN hs _) (pt i) m1.out (by omega))))
    | (go_at_call 188; go_loud (exact Calls.quiet_of (fmu_quiet (hF.drewN _) (evP D (pt i)) W rfl rfl))))
  obtain ⟨n1, hn1⟩ : ∃ n1, n1 = nq := ⟨_, rfl⟩
  subst hn1
  obtain ⟨u, hu⟩ : ∃ u, u = w.drewN n1 := ⟨_, rfl⟩
  have hFu : FieldAt u b := by rw [hu]; exact hF.drewN _
  have heu : Rd u (.slice ea O.length ec) O := by rw [hu]; exact Rd.drewN he _
  have cfu : u.cell? ⟨fb, 0, none⟩ = some (.pointer (some ⟨b, 0, none⟩)) := by rw [hu]; exact cf
  have ceu : u.cell? ⟨eb, 0, none⟩ = some (.slice ea O.length ec) := by rw [hu]; exact ce
  have HU : Hid _ := hu
  rw [← hu]
  obtain ⟨d, hd⟩ : ∃ d, Hid (d = mu (evP D (pt i)) W) := ⟨_, rfl⟩
  have HE : Hid (mulS (evP O (pt i)).toNat (invS d.toNat) = (dfF k m O D i).toNat) := by
    show _ = _
    unfold dfF
    rw [← hW.out, ← hd.out, mu_toNat, iv_toNat]
  rw [← hd.out]
  clear hF hs he cf cs cw ce cw1 hu
  go_wp2_with fail
  go_quiet (first
    | (go_at_call 199; go_loud (exact Calls.quiet_of (peval_quiet (hFu.drewN _) (Rd.drewN heu _) (pt i) m1.out (by omega))))
    | (go_at_call 201; go_loud (exact Calls.quiet_of (div_all (hFu.drewN _) (evP O (pt i)).toNat d.toNat rfl rfl (u8_lt _) (u8_lt _)))))
  rw [HE.out]
  go_wp2
  go_ret
  exact ⟨rfl, n1 + nq, by rw [HU.out, World.drewN_drewN]⟩
end Go.Proofs.YtddnfhfangfgeaaGreat.Gf

namespace Go.Proofs.YtddnfhfangfgeaaGreat.Gf
set_option linter.unusedVariables false
set_option linter.unusedSimpArgs false
open Go.RowKit
/-- 'append(s, p...)', both places of a call's own -/
theorem wpList_append_ints {P : Program} (w : World) {ops : Array Oper} {rest : List Oper} {o : Oper} {a : Act} {Q : Exit → Act → World → Prop} (hgd : o.guard = none) (s x : Operand) (t : TypeId)
    (ho : o.op = .call { callee := .builtin .append, args := #[s, x], argTypes := #[t, t] })
    (base e : Nat) (i : TypeInfo) (ht : P.underlying t = some (.slice e)) (hi : P.info? e = some i) (hz : i.zero = some (.int .i64 0)) (hsize : i.size = 1) (hby : i.bytes = 8)
    (v : Value) (zs : List Nat) (hs : a.eval s = v) (hown : OwnI w base e v zs) (va : Value) (ys : List Nat) (b' e' : Nat) (hx : a.eval x = va) (hr : OwnI w b' e' va ys) (hl : zs.length + ys.length ≤ 100000) (hbase : base ≤ w.heap.size)
    (h : ∀ v' w', OwnI w' base e v' (zs ++ ys) → w.grownBy w' v.ownBlock → wpList P ops Q rest (a.put o.dst v') w') : wpList P ops Q (o :: rest) a w := by
  have hr' := hr
  obtain ⟨hlen, ⟨rfl, hn⟩ | ⟨g, cap, cur, rfl, hg, hh, hc, hm, hsz, ht2⟩⟩ := hr
  · refine wpList_append_own_none hgd s x t ho base e i 1 ht hi v zs.length (zs.map vi) hs hown hx ?_
    have : ys = [] := List.length_eq_zero_iff.1 hn
    subst this
    exact h v w (by simpa using hown) (World.grownBy.refl _ _)
  · refine wpList_append_own w hgd s x t ho base e i (.int .i64 0) 1 8 ht hi hz hsize hby rfl (by decide) v zs.length (zs.map vi) hs hown ⟨g, 0, none⟩ ys.length cap (ys.map vi) hx (by simp) (fun j u hj => ?_) (by intro u hu; obtain ⟨z, _, rfl⟩ := List.mem_map.1 hu; rfl) (by unfold maxLen; omega) (by omega) hbase ?_
    · rw [add_at, Nat.zero_add]
      have hj2 : j < ys.length := by
        rw [List.getElem?_map] at hj
        by_cases q : j < ys.length
        · exact q
        · rw [List.getElem?_eq_none (by omega)] at hj; cases hj
      rw [World.ownsRow.cellAt hr' j (by omega), hj]
    · intro v' w' ho' hg' _
      refine h v' w' ?_ hg'
      unfold OwnI
      rw [List.length_append, List.map_append]
      exact ho'
end Go.Proofs.YtddnfhfangfgeaaGreat.Gf

namespace Go.Proofs.YtddnfhfangfgeaaGreat.Gf
set_option linter.unusedVariables false
set_option linter.unusedSimpArgs false
open Go.RowKit
theorem zeroCells_int (k : Nat) : Builtin.zeroCells #[Value.int .i64 0] k = (List.replicate k (Value.int .i64 0)).toArray := by
  apply Array.ext'
  unfold Builtin.zeroCells
  simp only [Array.toList_map, Array.toList_range]
  refine List.ext_getElem (by simp) fun i h1 h2 => ?_
  simp [Nat.mod_one]
set_option maxRecDepth 100000 in
set_option maxHeartbeats 2000000 in
theorem grow_any {n : Nat} {w : World} (hl : n ≤ 1000) {x : Int} (hx : x = (n : Int)) : Calls Tryz.prog 205 #[.slice none 0 0, .int .i64 x] w fun e w' => ∃ v, e = .returned v ∧ OwnI w' w.heap.size 3 v [] ∧ Below w.heap.size w w' := by
  subst hx
  have hb8 : Tryz.t3.bytes = 8 := by kernel_rfl
  have h1 : ¬ (281474976710656 : Int) < (n : Int) * (Tryz.t3.bytes : Int) := by
    have : ∀ q : Nat, q = 8 → ¬ (281474976710656 : Int) < (n : Int) * (q : Int) := fun q hq => by subst hq; omega
    exact this _ hb8
  have hnn : ¬ (n : Int) < 0 := by omega
  by_cases h0 : n = 0
  · subst h0
    clear hb8
    go_enter Tryz.func205, Tryz.ntmps205
    go_wp2
    go_ret
    exact ⟨_, rfl, OwnI.nil _ _ _, Below.refl _ _⟩
  · have hpos : 0 < n := by omega
    have h2 : ¬ (281474976710656 : Nat) < Builtin.nextslicecap n 0 * Tryz.t3.bytes := by
      have h3 := growslice_fits (need := n) (old := 0) (bytes := 8) (by omega) (by omega)
      have : ∀ q : Nat, q = 8 → ¬ (281474976710656 : Nat) < Builtin.nextslicecap n 0 * q := fun q hq => by subst hq; omega
      exact this _ hb8
    clear hb8
    have hge := grownCap_ge w n 0 3
    have hle := grownCap_le_maxLen w n 0 3 (by unfold maxLen; omega)
    unfold grownCap at hge hle
    go_enter Tryz.func205, Tryz.ntmps205
    go_wp2
    all_goals try omega
    go_ret
    refine ⟨_, rfl, ⟨rfl, .inr ⟨w.heap.size, _, _, rfl, Nat.le_refl _, heap_alloc_new w _, Nat.zero_le _, hle, ?_, rfl⟩⟩, ?_⟩
    · rw [zeroCells_int, zeroCells_int]
      simp
      omega
    · exact ((Below.refl _ _).alloc (Nat.le_refl _) _).drew
def catF (zs ys : List Nat) (r : Nat) : List Nat := if r = 0 then [] else if r = 1 then zs else zs ++ ys
def szF (a N r : Nat) : Nat := if r = 0 then 0 else if r = 1 then a else N
set_option maxRecDepth 100000 in
set_option maxHeartbeats 2000000 in
theorem ccat_any {w : World} {b b1 b2 e1 e2 : Nat} {v1 v2 : Value} {zs ys : List Nat} (k1 : w.cell? ⟨b, 0, none⟩ = some v1) (k2 : w.cell? ⟨b, 1, none⟩ = some v2) (hb : b < w.heap.size) (h1 : OwnI w b1 e1 v1 zs) (h2 : OwnI w b2 e2 v2 ys) (hl : zs.length ≤ 300) (hl2 : ys.length ≤ 300) :
    Calls Tryz.prog 174 #[.slice (some ⟨b, 0, none⟩) 2 2] w fun e w' => ∃ v, e = .returned v ∧ OwnI w' w.heap.size 3 v (zs ++ ys) ∧ Below w.heap.size w w' := by
  obtain ⟨i0, hi, hz0, hz1, hz2⟩ := info_parts info_int10
  obtain ⟨a1, c1, rfl⟩ := h1.form
  obtain ⟨a2, c2, rfl⟩ := h2.form
  have w1 : IntKind.i64.wrap ((zs.length : Int)) = (zs.length : Int) := by rw [IntKind.wrap_i64]; omega
  obtain ⟨N, hN⟩ : ∃ N, Hid (N = zs.length + ys.length) := ⟨_, rfl⟩
  have g0 : (zs.length : Int) + (ys.length : Int) = (N : Int) := by have := hN.out; omega
  have hN6 : N ≤ 600 := by have := hN.out; omega
  have w2 : IntKind.i64.wrap (N : Int) = (N : Int) := by rw [IntKind.wrap_i64]; omega
  have n1 : ¬ (zs.length : Int) < 0 := by omega
  have n2 : ¬ (N : Int) < 0 := by omega
  go_enter Tryz.func174, Tryz.ntmps174
  go_wp2_with fail
  go_loopw [3, 11] (fun s i wr => ∃ r : Nat, r ≤ 2 ∧ i = .int .i64 (r : Int) ∧ s = .int .i64 ((szF zs.length N r : Nat) : Int) ∧ wr = w) (fun _ i _ => 2 - (intOf i).toNat)
  case atStart => exact ⟨0, by omega, rfl, rfl, rfl⟩
  case round =>
    obtain ⟨r, hr, rfl, rfl, rfl⟩ := hrel
    by_cases r0 : r = 0
    · subst r0
      have E : szF zs.length N 0 = 0 := rfl
      rw [E]
      clear E h1 h2
      go_wp2
      go_roundw
      case rel => exact ⟨1, by omega, by go_num, by show _ = Value.int .i64 ((zs.length : Nat) : Int); go_num, by first | rfl | trivial⟩
      case measure => simp [intOf]
    by_cases r1 : r = 1
    · subst r1
      have E : szF zs.length N 1 = zs.length := rfl
      rw [E]
      clear E h1 h2
      go_wp2
      go_roundw
      case rel => exact ⟨2, by omega, by go_num, by show _ = Value.int .i64 ((N : Nat) : Int); go_num, by first | rfl | trivial⟩
      case measure => simp [intOf]
    · have r2 : r = 2 := by omega
      subst r2
      obtain ⟨wo, hwo⟩ : ∃ wo, wo = wr := ⟨_, rfl⟩
      subst hwo
      have E : szF zs.length N 2 = N := rfl
      rw [E]
      clear E r0 r1
      go_wp2_with fail
      refine (grow_any (n := N) (by omega) rfl).mono ?_
      rintro e u1 ⟨v, rfl, O1, B1⟩
      have k1' := (B1.cell (p := ⟨b, 0, none⟩) hb).trans k1
      have k2' := (B1.cell (p := ⟨b, 1, none⟩) hb).trans k2
      have h1' := owns_later h1 B1
      have h2' := owns_later h2 B1
      have hsz := B1.size
      obtain ⟨av, cv, rfl⟩ := O1.form
      have HB0 : Hid (Below wo.heap.size wo u1) := B1
      clear B1 h1' h2' k1' k2'
      go_wp2_with fail
      go_loopw [6, 27] (fun o i wz => ∃ r : Nat, r ≤ 2 ∧ i = .int .i64 (r : Int) ∧ OwnI wz wo.heap.size 3 o (catF zs ys r) ∧ Below wo.heap.size wo wz) (fun _ i _ => 2 - (intOf i).toNat)
      case atStart => exact ⟨0, by omega, rfl, O1, HB0.out⟩
      case round =>
        obtain ⟨r, hr, rfl, hO, hB⟩ := hrel
        clear HB0 O1
        have hsz := hB.size
        have q1 := (hB.cell (p := ⟨b, 0, none⟩) hb).trans k1
        have q2 := (hB.cell (p := ⟨b, 1, none⟩) hb).trans k2
        have p1 : OwnI wr b1 e1 (.slice a1 zs.length c1) zs := owns_later h1 hB
        have p2 : OwnI wr b2 e2 (.slice a2 ys.length c2) ys := owns_later h2 hB
        by_cases r0 : r = 0
        · subst r0
          have E : catF zs ys 0 = [] := rfl
          rw [E] at hO
          obtain ⟨av, cv, rfl⟩ := hO.form
          clear E h1 h2 k1 k2
          go_wp2_with (at_builtin; go_loud (refine wpList_append_ints _ rfl (.tmp 31) (.tmp 32) 45 rfl wo.heap.size 3 i0 Tryz.underlying45 hi hz0 hz1 hz2 (.slice av 0 cv) [] rfl hO (.slice a1 zs.length c1) zs b1 e1 rfl p1 (by simp; omega) hsz ?_); intro v' w9 hv9 hg9)
          have HB : Hid (Below wo.heap.size wo w9) := hB.grown hg9 hsz (fun q hq => (World.ownsRow.lt hO q hq).1)
          have HO : Hid (OwnI w9 wo.heap.size 3 v' zs) := hv9
          clear hO hv9 hB hg9 p1 p2 q1 q2
          go_wp2
          go_roundw
          case rel => exact ⟨1, by omega, by go_num, HO.out, HB.out⟩
          case measure => simp [intOf]
        by_cases r1 : r = 1
        · subst r1
          have E : catF zs ys 1 = zs := rfl
          rw [E] at hO
          obtain ⟨av, cv, rfl⟩ := hO.form
          clear E h1 h2 k1 k2
          go_wp2_with (at_builtin; go_loud (refine wpList_append_ints _ rfl (.tmp 31) (.tmp 32) 45 rfl wo.heap.size 3 i0 Tryz.underlying45 hi hz0 hz1 hz2 (.slice av zs.length cv) zs rfl hO (.slice a2 ys.length c2) ys b2 e2 rfl p2 (by omega) hsz ?_); intro v' w9 hv9 hg9)
          have HB : Hid (Below wo.heap.size wo w9) := hB.grown hg9 hsz (fun q hq => (World.ownsRow.lt hO q hq).1)
          have HO : Hid (OwnI w9 wo.heap.size 3 v' (zs ++ ys)) := hv9
          clear hO hv9 hB hg9 p1 p2 q1 q2
          go_wp2
          go_roundw
          case rel => exact ⟨2, by omega, by go_num, HO.out, HB.out⟩
          case measure => simp [intOf]
        · have r2 : r = 2 := by omega
          subst r2
          have E : catF zs ys 2 = zs ++ ys := rfl
          rw [E] at hO
          clear E r0 r1 h1 h2 k1 k2 p1 p2 q1 q2
          go_wp2
          try rw [Exit.noGoto_ret]
          go_ret
          exact ⟨_, rfl, hO, hB⟩
set_option maxRecDepth 100000 in
set_option maxHeartbeats 2000000 in
theorem clone_any {v : Value} {p : List UInt8} {w : World} (hp : Rd w v p) (hl : p.length ≤ 1000) (h0 : 0 < p.length) : Calls Tryz.prog 143 #[v] w fun e w' => ∃ g c, e = .returned (.slice (some ⟨g, 0, none⟩) p.length c) ∧ RowF w' w.heap.size 5 g p.length c (co p) ∧ Below w.heap.size w w' := by
  obtain ⟨i0, hi, hz0, hz1, hz2⟩ := info_parts info_u8
  obtain ⟨a, c, rfl⟩ := hp.form
  obtain ⟨bb, off, rfl, _, _⟩ := hp.byte h0
  have qT : ∀ (w : World) (a : Option Addr) (n c n' c' : Nat), (binOp .eql 36 (.slice a n c) (.slice none n' c')).run Tryz.prog w = .ok (.bool a.isNone) w := fun w a n c n' c' => Lib.run_eql_slice_nil w _ _ a n c n' c' Tryz.underlying36
  have B1 : Below w.heap.size w (w.alloc (.cells #[] 5)) := (Below.refl _ _).alloc (Nat.le_refl _) _
  have O1 : (w.alloc (.cells #[] 5)).ownsRow w.heap.size 5 1 (.slice (some ⟨w.heap.size, 0, none⟩) 0 0) 0 [] := ⟨rfl, .inr ⟨w.heap.size, 0, #[], rfl, Nat.le_refl _, heap_alloc_new w _, Nat.le_refl _, Nat.zero_le _, rfl, rfl⟩⟩
  have hp1 := hp.below B1
  have hsz : w.heap.size ≤ (w.alloc (.cells #[] 5)).heap.size := B1.size
  go_enter Tryz.func143, Tryz.ntmps143
  go_wp2_with (at_builtin; go_loud (refine wpList_append_rd _ rfl (.tmp 5) (.tmp 6) 36 rfl w.heap.size 5 i0 Tryz.underlying36 hi hz0 hz1 hz2 (.slice (some ⟨w.heap.size, 0, none⟩) 0 0) 0 [] rfl O1 (.slice (some ⟨bb, off, none⟩) p.length c) p rfl hp1 (by omega) hsz ?_); intro v' w9 hv9 hg9)
  have HB : Hid (Below w.heap.size w w9) := B1.grown hg9 hsz (fun q hq => by cases hq; exact Nat.le_refl _)
  have HO : Hid (OwnP w9 w.heap.size 5 v' p) := by
    show OwnP _ _ _ _ _
    unfold OwnP
    rw [Nat.zero_add] at hv9
    exact hv9
  clear hv9 hg9 B1 O1 hp1 hp qT
  obtain ⟨g, c9, rfl, hR⟩ := RowF.of HO.out h0
  go_wp2
  go_ret
  exact ⟨g, c9, rfl, hR, HB.out⟩
end Go.Proofs.YtddnfhfangfgeaaGreat.Gf
