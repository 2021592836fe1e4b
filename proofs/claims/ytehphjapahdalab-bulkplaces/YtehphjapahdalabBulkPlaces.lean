/- PROVED: for all k, m, place and all slices data of byte slices the call BulkPlaces(k, m, data, place) returns true, and its arguments read behind it as before; no conditions. -/
import Derived.Test.YtehphjapahdalabRows
import Derived.Test.YtehphjapahdalabBkLaw
import Derived.WalkKit
import Derived.ProofKit
import Derived.OpenShut
import Derived.ShutString
import Derived.ChangeOld
import Derived.Below
import Derived.Deep.Matrix
namespace Go.Proofs.Ytehphjapahdalab.bulkPlaces
open Go.ChangeShapes Go.WideShapes Go.ChangeAt Go.RowKit
open Go.ChangeMaps (open_string shut_string)
set_option linter.unusedVariables false

theorem own : ownKnob Try.prog.godebug = none := by kernel_rfl
theorem laidOut : laidOutB Try.prog = true := by kernel_rfl

/-- WHAT THE WALK IS TOLD OF A SLICE OF INTEGERS THAT CAME IN: it is nil; or it leads to a row of 'cap' cells, the numbers 'zs' (the first 'len' are its elements, the rest its spare room), each fitting its kind. -/
def IsRow (k : IntKind) (w : World) (a : Option Addr) (len cap : Nat) (zs : List Int) : Prop :=
  (a = none ∧ len = 0 ∧ cap = 0 ∧ zs = []) ∨
  ∃ x, a = some x ∧ len ≤ cap ∧ cap ≤ maxLen ∧ zs.length = cap ∧ (∀ i, i < zs.length → w.cell? (x.add i) = some (.int k (zs.getD i 0))) ∧ ∀ n ∈ zs, (Lit.int k n).wf = true

open Gf
set_option linter.unusedSimpArgs false
set_option maxRecDepth 100000 in
set_option maxHeartbeats 2000000 in
theorem walk (a0 : Int) (a1 : Int) (a2 : Option Addr) (len2 cap2 : Nat) (z2 : List (List UInt8)) (a3 : Int) (w : World) (w0 : (Lit.int .i64 a0).wf = true) (w1 : (Lit.int .i64 a1).wf = true) (w2 : Rs w (.slice a2 len2 cap2) z2) (w3 : (Lit.int .i64 a3).wf = true) :
    Calls Try.prog 3 #[.int .i64 a0, .int .i64 a1, .slice a2 len2 cap2, .int .i64 a3] w fun e w' => e = .returned (.bool true) ∧ Below w.heap.size w w' := by
  obtain rfl := w2.lenEq
  go_enter Try.func3, Try.ntmps3
  have B : Below w.heap.size w w := Below.refl _ _
  go_wp2_with fail
  refine (awake6_any _).mono ?_
  rintro e u1 ⟨rfl, b⟩
  have D : Below (World.heap w |>.size) w u1 := Below.next (by repeat (first | exact Below.refl _ _ | apply Below.drewN | apply Below.drew | apply Below.draws | apply below_lit)) b
  replace w2 := w2.below D
  replace B := Below.next B D
  clear b D
  go_wp2_with fail
  refine (new_any _).mono ?_
  rintro e u2 ⟨rfl, F, hO⟩
  have b := hO.below
  clear hO
  have D : Below (World.heap u1 |>.size) u1 u2 := Below.next (by repeat (first | exact Below.refl _ _ | apply Below.drewN | apply Below.drew | apply Below.draws | apply below_lit)) b
  replace w2 := w2.below D
  replace B := Below.next B D
  clear b D
  go_wp2_with fail
  refine (few_any a0 a1 (w2.below (by repeat (first | exact Below.refl _ _ | apply Below.drewN | apply Below.drew | apply Below.draws | apply below_lit)))).mono ?_
  rintro e u3 ⟨t0, rfl, hS0, b⟩
  have D : Below (World.heap u2 |>.size) u2 u3 := Below.next (by repeat (first | exact Below.refl _ _ | apply Below.drewN | apply Below.drew | apply Below.draws | apply below_lit)) b
  replace w2 := w2.below D
  replace F := F.below D
  replace B := Below.next B D
  clear b D
  cases t0
  · go_wp2
    go_ret
    exact ⟨rfl, Below.next B (by repeat (first | exact Below.refl _ _ | apply Below.drewN | apply Below.drew | apply Below.draws | apply below_lit))⟩
  · have S2 := hS0 rfl
    clear hS0
    by_cases hx : encX a0 a1 z2 = 0
    · obtain ⟨k, m, rfl, rfl, h1, h2, hL, hE, _⟩ := enc_zero hx
      clear hx
      have hLh : Hid _ := hL
      clear hL
      go_wp2_with fail
      refine (enc_ok (F.below (by repeat (first | exact Below.refl _ _ | apply Below.drewN | apply Below.drew | apply Below.draws | apply below_lit))) h1 h2 (w2.below (by repeat (first | exact Below.refl _ _ | apply Below.drewN | apply Below.drew | apply Below.draws | apply below_lit))) hLh.out hE S2 rfl rfl).mono ?_
      rintro e u4 ⟨vx, rfl, Rx, b⟩
      have D : Below (World.heap u3 |>.size) u3 u4 := Below.next (by repeat (first | exact Below.refl _ _ | apply Below.drewN | apply Below.drew | apply Below.draws | apply below_lit)) b
      replace w2 := w2.below D
      replace F := F.below D
      replace B := Below.next B D
      clear b D
      obtain ⟨xb, xo, xc, ex, hxb, hxc, hxm⟩ := Rx.somewhere (by rw [encL_length, hLh.out]; omega)
      rw [encL_length, hLh.out] at ex hxc
      subst ex
      unfold maxLen at hxm
      obtain ⟨ab, ao, aa, ac, ea, hab, ca, ra⟩ := w2.at (i := 0) (by rw [hLh.out]; omega)
      subst ea
      rw [Nat.add_zero] at ca
      clear ra
      have i0 : (0 : Int) < (List.length z2 : Int) := by rw [hLh.out]; omega
      by_cases hp0 : a3 < 0
      · skip
        go_wp2
        go_ret
        exact ⟨rfl, Below.next B (by repeat (first | exact Below.refl _ _ | apply Below.drewN | apply Below.drew | apply Below.draws | apply below_lit))⟩
      · have hm4 := h1
        by_cases hp1 : a3 ≥ ((ro z2 0).length : Int)
        · skip
          go_wp2
          go_ret
          exact ⟨rfl, Below.next B (by repeat (first | exact Below.refl _ _ | apply Below.drewN | apply Below.drew | apply Below.draws | apply below_lit))⟩
        · obtain ⟨n, rfl⟩ := Int.eq_ofNat_of_zero_le (show 0 ≤ a3 by omega)
          have hn0 : n < (ro z2 0).length := by omega
          clear hm4
          have hs0 : (ro z2 0).length ≤ 300 := S2.2 0
          obtain ⟨i1, hj, hy0, hy1, hy2⟩ := info_parts info_shard
          have hS1 := S2.1
          have hlr : Hid (∀ i, i < z2.length → n < (ro z2 i).length ∧ (ro z2 i).length ≤ 300) := fun i hi => ⟨by rw [hE i hi]; exact hn0, S2.2 i⟩
          have hd1 : decide ((n : Int) < 0) = false := decide_eq_false (by omega)
          have hd2 : decide ((n : Int) ≥ ((ro z2 0).length : Int)) = false := decide_eq_false (by omega)
          have hd3 : decide (((ro z2 0).length : Int) ≤ (n : Int)) = false := decide_eq_false (by omega)
          have hd4 : ¬ (n : Int) < 0 := by omega
          have hd5 : decide ((ro z2 0).length ≤ n) = false := decide_eq_false (by omega)
          have hd6 : ¬ (ro z2 0).length ≤ n := by omega
          go_wp2
          clear ca hd1 hd2 hd3 hd4 hd5 hd6 hp0 hp1
          go_loopw [13, 14] (fun o i wr => ∃ r : Nat, r ≤ z2.length ∧ i = .int .i64 r ∧ Gf.Os wr (World.heap u4 |>.size) 30 5 o (mkL r (fun i => [co (ro z2 i) n])) ∧ Below (World.heap u4 |>.size) u4 wr) (fun _ i _ => z2.length - (intOf i).toNat)
          case atStart => exact ⟨0, by omega, rfl, Os.nil _ _ _ _, Below.refl _ _⟩
          case round =>
            obtain ⟨r, hr, rfl, hO, hB⟩ := hrel
            have hsz := hB.size
            by_cases hlt : r < z2.length
            · have hlt' : (r : Int) < (List.length z2 : Int) := by omega
              obtain ⟨pa, pc, cp, rp⟩ := (w2.below hB).get hlt
              obtain ⟨hl1, hl2⟩ := hlr.out r hlt
              obtain ⟨pb, po, ep, hpb, dp⟩ := rp.byte hl1
              subst ep
              have hl3 : (n : Int) < ((ro z2 r).length : Int) := by omega
              have habr : ab < (World.heap wr |>.size) := World.block_lt_of_cell? _ _ cp
              obtain ⟨av, cv, ev⟩ := hO.form
              rw [mkL_length] at ev
              subst ev
              have hx1 : OwnP (World.alloc wr (.cells #[.int .u8 ((co (ro z2 r) n).toNat : Nat)] 5)) (World.heap u4 |>.size) 5 (.slice (some ⟨World.heap wr |>.size, 0, none⟩) 1 1) [co (ro z2 r) n] := ownsRow_base (World.ownsRow_lit wr #[.int .u8 ((co (ro z2 r) n).toNat : Nat)] 1 (Nat.le_refl _) (by unfold maxLen; omega) rfl) hsz
              clear rp hl1 hl2
              go_wp2_with (at_builtin; go_loud (refine wpList_append_os rfl (.tmp 59) (.tmp 68) 22 rfl (World.heap u4 |>.size) 30 i1 Try.underlying22 hj hy0 hy1 hy2 5 (.slice av r cv) (mkL r (fun i => [co (ro z2 i) n])) rfl hO ((Below.refl _ _).alloc (Nat.le_refl _) _) (.slice (some ⟨World.heap wr |>.size, 0, none⟩) 1 1) [co (ro z2 r) n] hx1 (by intro q hq; cases hq; exact Nat.le_refl _) _ 1 (by rw [World.size_alloc]; rfl) (by rw [mkL_length]; omega) hsz ?_); intro v' w6 hv6 hb6 _ _)
              have HO : Hid (Gf.Os w6 (World.heap u4 |>.size) 30 5 v' (mkL (r + 1) (fun i => [co (ro z2 i) n]))) := (by rw [mkL_succ]; exact hv6 : Gf.Os w6 (World.heap u4 |>.size) 30 5 v' (mkL (r + 1) (fun i => [co (ro z2 i) n])))
              have HB : Hid (Below (World.heap u4 |>.size) u4 w6) := hB.trans hb6
              clear hv6 hb6 hO hB hx1 cp dp
              go_roundw
              case rel => exact ⟨r + 1, by omega, by go_num, HO.out, HB.out⟩
              case measure => simp [intOf]; omega
            · have hge : ¬ (r : Int) < (List.length z2 : Int) := by omega
              have er : r = z2.length := by omega
              rw [er] at hO
              clear er
              have Ro : Rs wr u13 (oneL z2 n) := hO.rs
              obtain ⟨oa, oc, rfl⟩ := Ro.form
              replace w2 := w2.below hB
              replace F := F.below hB
              replace Rx := Rx.below hB
              replace B := Below.next B hB
              clear hB hO
              go_wp2_with fail
              refine (enc_ok (F.below (by repeat (first | exact Below.refl _ _ | apply Below.drewN | apply Below.drew | apply Below.draws | apply below_lit))) h1 h2 (Ro.below (by repeat (first | exact Below.refl _ _ | apply Below.drewN | apply Below.drew | apply Below.draws | apply below_lit))) (by rw [oneL_length]; exact hLh.out) (oneL_even _ _) (oneL_small S2) rfl rfl).mono ?_
              rintro e u11 ⟨vy, rfl, Ry, b⟩
              have D : Below (World.heap wr |>.size) wr u11 := Below.next (by repeat (first | exact Below.refl _ _ | apply Below.drewN | apply Below.drew | apply Below.draws | apply below_lit)) b
              replace w2 := w2.below D
              replace F := F.below D
              replace Rx := Rx.below D
              replace Ro := Ro.below D
              replace B := Below.next B D
              clear b D
              obtain ⟨yb, yo, yc, ey, hyb, hyc, hym⟩ := Ry.somewhere (by rw [encL_length, oneL_length, hLh.out]; omega)
              rw [encL_length, oneL_length, hLh.out] at ey hyc
              subst ey
              have lx : Hid (∀ T, T < k + m → (ro (encL m k (parF k) z2) T).length = (ro z2 0).length) := fun T hT => enc_len hE (by rw [hLh.out]; exact hT)
              have ly : Hid (∀ T, T < k + m → ro (encL m k (parF k) (oneL z2 n)) T = [co (ro (encL m k (parF k) z2) T) n]) := fun T hT => place_enc hLh.out (by omega) hE hn0 hT
              have Ry2 : Hid _ := Ry
              have Rx2 : Hid _ := Rx
              have B2 : Hid _ := B
              clear Ry Rx B Ro F w2 hlr
              go_wp2
              go_loopw [17] (fun i wr => ∃ T : Nat, T ≤ k + m ∧ i = .int .i64 (T : Int) ∧ ∃ nd, wr = World.drewN u11 nd) (fun i _ => k + m - (intOf i).toNat)
              case atStart => exact ⟨0, by omega, rfl, 0, rfl⟩
              case round =>
                obtain ⟨T, hT, rfl, nd, rfl⟩ := hrel
                by_cases hTk : T < k + m
                · have hTi : (T : Int) < (k : Int) + (m : Int) := by omega
                  have hTj : (T : Int) < ((k + m : Nat) : Int) := by omega
                  obtain ⟨pa, pc, cy, ry⟩ := Rs.get Ry2.out (i := T) (by rw [encL_length, oneL_length, hLh.out]; exact hTk)
                  obtain ⟨qa, qc, cx, rx⟩ := Rs.get Rx2.out (i := T) (by rw [encL_length, hLh.out]; exact hTk)
                  rw [ly.out T hTk] at cy ry
                  obtain ⟨pb, po, ep, _, dy⟩ := ry.byte (i := 0) (by simp)
                  subst ep
                  obtain ⟨qb, qo, eq, _, dx⟩ := rx.byte (i := n) (by rw [lx.out T hTk]; exact hn0)
                  subst eq
                  rw [lx.out T hTk] at cx
                  rw [Nat.add_zero] at dy
                  have e1 : ([co (ro (encL m k (parF k) z2) T) n] : List UInt8).length = 1 := rfl
                  have e2 : co [co (ro (encL m k (parF k) z2) T) n] 0 = co (ro (encL m k (parF k) z2) T) n := rfl
                  rw [e1] at cy
                  rw [e2] at dy
                  clear e1 e2 ry rx
                  have hn1 : (n : Int) < ((ro z2 0).length : Int) := by omega
                  have hn2 : ¬ ((ro z2 0).length : Int) ≤ (n : Int) := by omega
                  generalize (((co (ro (encL m k (parF k) z2) T) n).toNat : Nat) : Int) = xx at *
                  go_wp2
                  go_quiet (fail)
                  go_wp2
                  go_roundw
                  case rel => exact ⟨T + 1, by omega, by go_num, _, rfl⟩
                  case measure => simp [intOf]; omega
                · have hTi : ¬ (T : Int) < (k : Int) + (m : Int) := by omega
                  go_wp2
                  go_ret
                  exact ⟨rfl, Below.next B2.out ((Below.refl _ _).drewN _)⟩
    · have hb : (encX a0 a1 z2 != 0) = true := by simp [hx]
      go_wp2_with fail
      refine (enc_any (F.below (by repeat (first | exact Below.refl _ _ | apply Below.drewN | apply Below.drew | apply Below.draws | apply below_lit))) (w2.below (by repeat (first | exact Below.refl _ _ | apply Below.drewN | apply Below.drew | apply Below.draws | apply below_lit))) S2).mono ?_
      rintro e u4 ⟨vx, rfl, Rx, b⟩
      have D : Below (World.heap u3 |>.size) u3 u4 := Below.next (by repeat (first | exact Below.refl _ _ | apply Below.drewN | apply Below.drew | apply Below.draws | apply below_lit)) b
      replace w2 := w2.below D
      replace F := F.below D
      replace B := Below.next B D
      clear b D
      obtain ⟨xa, xc, rfl⟩ := Rx.form
      clear Rx
      generalize encX a0 a1 z2 = ex at *
      generalize (encR a0 a1 z2).length = nx at *
      clear hx
      go_wp2
      go_ret
      exact ⟨rfl, Below.next B (by repeat (first | exact Below.refl _ _ | apply Below.drewN | apply Below.drew | apply Below.draws | apply below_lit))⟩

/-! ### THE ROW's STEP: WRITTEN OUT: LEAVE IT -/
set_option maxRecDepth 100000 in
theorem lifted (os : Os) (started : os.Started) (H : Type) (enc : TypeId × Value → H) :
    ReturnsInHanded {} Try.checked os 3 .any (Rows.bulkPlacesSpec.pre6 enc Try.prog Try.f3 Rows.bulkPlacesRow.domain false) (Rows.bulkPlacesSpec.post enc Try.prog Try.f3 false true false false) := by
  refine returnsInHanded_of_change (C := Try.checked) own started (by kernel_rfl) Try.func3
    (ChangeSpec.witness6 (enc := enc) (C := Try.checked) false ⟨#[], #[.int .i64 0, .int .i64 0, .slice none 0 0, .int .i64 0], []⟩ 8 (by kernel_rfl) (by kernel_rfl) (by kernel_rfl) (by kernel_rfl)) ?_
  intro W base args ds gs before hval0 hW hcnd _
  have hval : ∀ (j : Nat) t v, Try.f3.params[j]? = some t → args[j]? = some v → Value.okWide Try.prog W .any base t v := hval0
  have hW' := hW
  obtain ⟨p, q, hA0, hV, rfl, hfz, hnd⟩ := hW
  have hA : DataW.TrodAll enc Try.prog W 0 (fun _ => true) true Try.f3.params.toList args.toList ds p := hA0
  rw [Try.params3] at hA hval
  obtain ⟨v0, vs0, d0, ds0, p0, q0, hargs, rfl, rfl, h0, r0⟩ := trodAll_cons hA
  obtain ⟨v1, vs1, d1, ds1, p1, q1, rfl, rfl, rfl, h1, r1⟩ := trodAll_cons r0
  obtain ⟨v2, vs2, d2, ds2, p2, q2, rfl, rfl, rfl, h2, r2⟩ := trodAll_cons r1
  obtain ⟨v3, vs3, d3, ds3, p3, q3, rfl, rfl, rfl, h3, r3⟩ := trodAll_cons r2
  obtain ⟨rfl, rfl, rfl⟩ := trodAll_nil r3
  obtain rfl : args = #[v0, v1, v2, v3] := by cases args; simp_all
  obtain ⟨rfl, rfl⟩ := trodVars_none hV
  obtain ⟨a0, rfl, rfl, rfl, w0⟩ := open_int Try.underlying3 (hval 0 3 v0 rfl rfl) h0
  obtain ⟨a1, rfl, rfl, rfl, w1⟩ := open_int Try.underlying3 (hval 1 3 v1 rfl rfl) h1
  obtain ⟨a2, len2, cap2, rfl⟩ := okWide_slice Try.underlying22 (hval 2 22 v2 rfl rfl)
  have k2 := h2
  have lt2 : ∀ x ∈ p2, x.block < W.heap.size := by obtain ⟨m, hm⟩ := k2; exact DataW.trod_lt m _ _ _ hm
  obtain ⟨z2, w2⟩ : ∃ zs, Rs W (.slice a2 len2 cap2) zs := by
    obtain ⟨fuel, hf⟩ := h2
    rcases Go.Deep.open_int_rows Try.underlying22 Try.underlying30 Try.underlying5 (by kernel_rfl) (by kernel_rfl) hf with ⟨hcs, _⟩ | ⟨x, l, c, A, N, C, Z, hcs, _, hl, hm, _, hrows⟩
    · simp [Value.cells] at hcs
      obtain ⟨rfl, rfl, rfl⟩ := hcs
      exact ⟨[], rs_none⟩
    · simp [Value.cells] at hcs
      obtain ⟨rfl, rfl, rfl⟩ := hcs
      exact rs_rows hl hm hrows
  obtain ⟨a3, rfl, rfl, rfl, w3⟩ := open_int Try.underlying3 (hval 3 3 v3 rfl rfl) h3
  clear hA0 hval0
  refine (walk a0 a1 a2 len2 cap2 z2 a3 W w0 w1 w2 w3).mono fun e W' ⟨he, bel⟩ => ?_
  subst he
  exact ⟨_, rfl, _, _, _, [], _, [], hW', trodAll_mk1 (shut_bool Try.underlying4 _), (trodAll_cons_mk (shut_int Try.underlying3 w0) (trodAll_cons_mk (shut_int Try.underlying3 w1) (trodAll_cons_mk (Below.trod laidOut (by kernel_rfl) (of_decide_eq_true (by kernel_rfl)) k2 bel lt2) (trodAll_cons_mk (shut_int Try.underlying3 w3) trodAll_mk0)))), rfl, bel.frame _, fun h => by cases h⟩

theorem over : Rows.bulkPlacesRow.holds Try.pinned (OpenSpec.ofChange Rows.bulkPlacesSpec) :=
  OpenClaim.holds_of_wide 3 Try.f3 rfl rfl rfl rfl rfl rfl rfl ⟨rfl, rfl, rfl, rfl, rfl⟩ rfl rfl rfl rfl rfl (by kernel_rfl) Try.func3 (by kernel_rfl)
    (of_decide_eq_true (by kernel_rfl)) (by unfold Func.isWrapper; first | (rw [if_pos (by decide +kernel)]; kernel_rfl) | (rw [if_neg (by decide +kernel)]; exact ⟨rfl, rfl⟩))
    (fun os started H enc _ => lifted os started H enc)

/-- ████ THE STATEMENT ████ -/
theorem proved : Rows.BulkPlacesSaid := over
end Go.Proofs.Ytehphjapahdalab.bulkPlaces
namespace Go.Proofs.Ytehphjapahdalab
theorem bulkPlaces_holds : Rows.BulkPlacesSaid := bulkPlaces.proved
#print axioms bulkPlaces_holds
end Go.Proofs.Ytehphjapahdalab
