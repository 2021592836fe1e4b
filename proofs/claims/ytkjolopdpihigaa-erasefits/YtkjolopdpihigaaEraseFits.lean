/- PROVED: for all k, m, which, all slices has of bools and all slices shards of byte slices the call EraseFits(k, m, has, shards, which) returns true, and its arguments read behind it as before; no conditions. -/
import Derived.Test.YtkjolopdpihigaaRows
import Derived.Test.YtkjolopdpihigaaTome10
import Derived.WalkKit
import Derived.ProofKit
import Derived.OpenShut
import Derived.ShutString
import Derived.ChangeOld
import Derived.Below
import Derived.Deep.Grids
import Derived.Deep.Matrix
namespace Go.Proofs.Ytkjolopdpihigaa.eraseFits
open Go.ChangeShapes Go.WideShapes Go.ChangeAt Go.RowKit
open Go.ChangeMaps (open_string shut_string)
set_option linter.unusedVariables false

theorem own : ownKnob Try.prog.godebug = none := by kernel_rfl
theorem laidOut : laidOutB Try.prog = true := by kernel_rfl

/-- WHAT THE WALK IS TOLD OF A SLICE OF INTEGERS THAT CAME IN: it is nil; or it leads to a row of 'cap' cells, the numbers 'zs' (the first 'len' are its elements, the rest its spare room), each fitting its kind. -/
def IsRow (k : IntKind) (w : World) (a : Option Addr) (len cap : Nat) (zs : List Int) : Prop :=
  (a = none ∧ len = 0 ∧ cap = 0 ∧ zs = []) ∨
  ∃ x, a = some x ∧ len ≤ cap ∧ cap ≤ maxLen ∧ zs.length = cap ∧ (∀ i, i < zs.length → w.cell? (x.add i) = some (.int k (zs.getD i 0))) ∧ ∀ n ∈ zs, (Lit.int k n).wf = true

open Gf
set_option linter.unusedSimpArgs false
theorem info_bool : (Try.prog.info? 4).map (fun i => (i.zero, i.size, i.bytes)) = some (some (.bool false), 1, 1) := by kernel_rfl
theorem same6_y {va vb : Value} {A : List (List UInt8)} {w : World} (hA : Rs w va A) (hB : Rs w vb A) : Calls Try.prog 14 #[va, vb] w fun e w' => e = .returned (.bool true) ∧ ∃ n, w' = w.drewN n :=
  (same6_any hA hB).mono fun e w' ⟨he, hn⟩ => ⟨by rw [he]; exact congrArg (fun b => Ending.returned (.bool b)) (decide_eq_true rfl), hn⟩

set_option maxRecDepth 100000 in
set_option maxHeartbeats 4000000 in
theorem walk (a0 : Int) (a1 : Int) (a2 : Option Addr) (len2 cap2 : Nat) (z2 : List Bool) (a3 : Option Addr) (len3 cap3 : Nat) (z3 : List (List UInt8)) (a4 : Int) (w : World) (w0 : (Lit.int .i64 a0).wf = true) (w1 : (Lit.int .i64 a1).wf = true) (w2 : RdB w (.slice a2 len2 cap2) z2) (w3 : Rs w (.slice a3 len3 cap3) z3) (w4 : (Lit.int .i64 a4).wf = true) :
    Calls Try.prog 6 #[.int .i64 a0, .int .i64 a1, .slice a2 len2 cap2, .slice a3 len3 cap3, .int .i64 a4] w fun e w' => e = .returned (.bool true) ∧ Below w.heap.size w w' := by
  obtain rfl := w2.lenEq
  obtain rfl := w3.lenEq
  go_enter Try.func6, Try.ntmps6
  have B : Below w.heap.size w w := Below.refl _ _
  go_wp2_with fail
  refine (awake7_any _).mono ?_
  rintro e u1 ⟨rfl, b⟩
  have D : Below (World.heap w |>.size) w u1 := Below.next (by repeat (first | exact Below.refl _ _ | apply Below.drewN | apply Below.drew | apply Below.draws | apply below_lit)) b
  replace w2 := w2.below D
  replace w3 := w3.below D
  replace B := Below.next B D
  clear b D
  go_wp2_with fail
  refine (new_any _).mono ?_
  rintro e u2 ⟨rfl, F, hO⟩
  have b := hO.below
  clear hO
  have D : Below (World.heap u1 |>.size) u1 u2 := Below.next (by repeat (first | exact Below.refl _ _ | apply Below.drewN | apply Below.drew | apply Below.draws | apply below_lit)) b
  replace w2 := w2.below D
  replace w3 := w3.below D
  replace B := Below.next B D
  clear b D
  go_wp2_with fail
  refine (few_any a0 a1 (w3.below (by repeat (first | exact Below.refl _ _ | apply Below.drewN | apply Below.drew | apply Below.draws | apply below_lit)))).mono ?_
  rintro e u3 ⟨t0, rfl, hS0, b⟩
  have D : Below (World.heap u2 |>.size) u2 u3 := Below.next (by repeat (first | exact Below.refl _ _ | apply Below.drewN | apply Below.drew | apply Below.draws | apply below_lit)) b
  replace w2 := w2.below D
  replace w3 := w3.below D
  replace F := F.below D
  replace B := Below.next B D
  clear b D
  cases t0
  · go_wp2
    go_ret
    exact ⟨rfl, Below.next B (by repeat (first | exact Below.refl _ _ | apply Below.drewN | apply Below.drew | apply Below.draws | apply below_lit))⟩
  · have S3 := hS0 rfl
    clear hS0
    by_cases h20 : (z3.length : Int) > 20
    · skip
      go_wp2
      go_ret
      exact ⟨rfl, Below.next B (by repeat (first | exact Below.refl _ _ | apply Below.drewN | apply Below.drew | apply Below.draws | apply below_lit))⟩
    · have hlen : ¬ (z3.length : Int) > 20 := h20
      by_cases hx : decX a0 a1 z2 z3 = 0
      · obtain ⟨k, m, rfl, rfl, h1, h2, h3, h4, h5, h6, h7⟩ := dec_zero hx
        have h3h : Hid _ := h3
        have h4h : Hid _ := h4
        have h6h : Hid _ := h6
        have h5h : Hid _ := h5
        clear h3 h4 h5 h6
        obtain ⟨D, hD⟩ : ∃ D, Hid (D = decD k (invF k (pl7 z2)) (pl7 z2) z3) := ⟨_, rfl⟩
        rw [← hD.out] at h7
        have h7h : Hid _ := h7
        clear h7
        have nD : Hid (D.length = k) := (by rw [hD.out, decD_length] : D.length = k)
        have eD : Hid (Even D) := (by rw [hD.out]; exact decD_even h1 : Even D)
        have sD : Hid (Small D) := (by rw [hD.out]; exact decD_small (by omega) (S3.2 _) : Small D)
        obtain ⟨X, hX⟩ : ∃ X, Hid (X = encL m k (parF k) D) := ⟨_, rfl⟩
        obtain ⟨s, hs⟩ : ∃ s, Hid (s = k + m) := ⟨_, rfl⟩
        have g1 : (k : Int) + (m : Int) = (s : Int) := by have := hs.out; omega
        have gw : IntKind.i64.wrap (s : Int) = (s : Int) := by have := hs.out; rw [IntKind.wrap_i64]; omega
        have nX : Hid (X.length = s) := (by rw [hX.out, encL_length, nD.out, hs.out] : X.length = s)
        have hks : k ≤ s := by rw [hs.out]; omega
        have hss : s ≤ 256 := by rw [hs.out]; exact h2
        go_wp2_with fail
        refine (edec_any (k := (k : Int)) (m := (m : Int)) (F.below (by repeat (first | exact Below.refl _ _ | apply Below.drewN | apply Below.drew | apply Below.draws | apply below_lit))) (w2.below (by repeat (first | exact Below.refl _ _ | apply Below.drewN | apply Below.drew | apply Below.draws | apply below_lit))) (w3.below (by repeat (first | exact Below.refl _ _ | apply Below.drewN | apply Below.drew | apply Below.draws | apply below_lit))) (S3.h z2)).mono ?_
        rintro e u4 ⟨hV, vx, rfl, Rx, b⟩
        have hV1 : Hid _ := hV hx k rfl
        clear hV
        rw [hx]
        rw [h7h.out, ← hX.out] at Rx
        have D : Below (World.heap u3 |>.size) u3 u4 := Below.next (by repeat (first | exact Below.refl _ _ | apply Below.drewN | apply Below.drew | apply Below.draws | apply below_lit)) b
        replace w2 := w2.below D
        replace w3 := w3.below D
        replace F := F.below D
        replace B := Below.next B D
        clear b D
        obtain ⟨xb, xo, xc, ex, hxb, hxc, hxm⟩ := Rx.somewhere (by rw [nX.out]; omega)
        rw [nX.out] at ex hxc
        subst ex
        unfold maxLen at hxm
        clear hx h20 hlen
        have Rx0 := Rx
        rw [hX.out] at Rx0
        go_wp2_with fail
        refine (fits_t (F.below (by repeat (first | exact Below.refl _ _ | apply Below.drewN | apply Below.drew | apply Below.draws | apply below_lit))) h1 h2 nD.out eD.out sD.out (Rx0.below (by repeat (first | exact Below.refl _ _ | apply Below.drewN | apply Below.drew | apply Below.draws | apply below_lit))) rfl rfl).mono ?_
        rintro e u5 ⟨rfl, b⟩
        have D : Below (World.heap u4 |>.size) u4 u5 := Below.next (by repeat (first | exact Below.refl _ _ | apply Below.drewN | apply Below.drew | apply Below.draws | apply below_lit)) b
        replace w2 := w2.below D
        replace w3 := w3.below D
        replace F := F.below D
        replace Rx := Rx.below D
        replace Rx0 := Rx0.below D
        replace B := Below.next B D
        clear b D
        clear Rx0
        have keep : Hid (∀ i, i < z2.length → hb z2 i = true → (thr z2 i).length < k → ro X i = ro z3 i) := fun i hi e hk => by
          have hp := pl7_at e
          have := dec_keep (m := m) hV1.out (pl7_bound h3h.out h6h.out) (fun j hj => h5h.out _ _ (pl7_has h6h.out hj) (pl7_has h6h.out (by omega))) (L := z3) hk
          rw [hp.2.2, ← hD.out, ← hX.out] at this
          exact this
        have hz2 : z2.length = s := by rw [h3h.out, hs.out]
        have hz2h : Hid _ := hz2
        have hz3 : Hid (z3.length = s) := (by rw [h4h.out, hs.out] : z3.length = s)
        have hz2l : z2.length ≤ s := by omega
        clear hz2
        obtain ⟨pb, po, pc, e3, hpb, hpc, hpm⟩ := w3.somewhere (by rw [hz3.out]; omega)
        simp at e3
        obtain ⟨e3, e3b⟩ := e3
        subst e3 e3b
        unfold maxLen at hpm
        rw [hz3.out] at hpc
        go_wp2
        go_loopw [18, 19] (fun c i wr => ∃ r : Nat, r ≤ z2.length ∧ i = .int .i64 (r : Int) ∧ c = .int .i64 (((thr z2 r).length : Nat) : Int) ∧ ∃ nd, wr = World.drewN u5 nd) (fun _ i _ => z2.length - (intOf i).toNat)
        case atStart => exact ⟨0, by omega, rfl, rfl, 0, rfl⟩
        case round =>
          obtain ⟨r, hr, rfl, rfl, nd, hd0⟩ := hrel
          have hd : Hid _ := hd0
          have Bd : Below (World.heap u5 |>.size) u5 wr := by rw [hd0]; exact (Below.refl _ _).drewN _
          clear hd0
          have hq := thr_len z2 r
          by_cases hlt : r < z2.length ∧ (thr z2 r).length < k
          · obtain ⟨hltA, hltB⟩ := hlt
            have hltA1 : (r : Int) < (List.length z2 : Int) := by omega
            have hltB1 : (((thr z2 r).length : Nat) : Int) < (k : Int) := by omega
            obtain ⟨hb1, ho1, eh, hb1l, ch⟩ := (w2.below Bd).at (i := r) hltA
            subst eh
            cases e : hb z2 r
            · rw [e] at ch
              have HT : Hid (thr z2 (r + 1) = thr z2 r) := thr_no e
              go_wp2
              go_roundw
              case rel => exact ⟨r + 1, by omega, by go_num, by rw [HT.out], nd, hd.out⟩
              case measure => simp [intOf]; omega
            · rw [e] at ch
              have HT : Hid ((thr z2 (r + 1)).length = (thr z2 r).length + 1) := (by rw [thr_yes e, List.length_append]; rfl : (thr z2 (r + 1)).length = (thr z2 r).length + 1)
              have gwT : IntKind.i64.wrap ((((thr z2 r).length : Nat) : Int) + 1) = (((thr z2 r).length : Nat) : Int) + 1 := by rw [IntKind.wrap_i64]; omega
              have R1 := (Rx.below Bd).one (i := r) (by rw [nX.out]; omega)
              have R3 := (w3.below Bd).one (i := r) (by rw [hz3.out]; omega)
              have hsame : ro X r = ro z3 r := keep.out r hltA e hltB
              rw [hsame] at R1
              have i1 : IntKind.i64.wrap ((r : Int) + 1) = (r : Int) + 1 := by rw [IntKind.wrap_i64]; omega
              have i2 : (r : Int) + 1 ≤ (xc : Int) := by omega
              have i3 : r < xc := by omega
              have i4 : ¬ xc = r := by omega
              have i5 : (r : Int) + 1 ≤ (cap3 : Int) := by omega
              have i6 : r < cap3 := by omega
              have i7 : ¬ cap3 = r := by omega
              have i8 : r + 1 - r = 1 := by omega
              have i9 : r + 1 ≤ xc := by omega
              have i10 : r + 1 ≤ cap3 := by omega
              have i11 : (r : Int) ≤ (r : Int) + 1 := by omega
              have i12 : ((r : Int) + 1).toNat = r + 1 := by omega
              clear e hsame
              go_wp2
              go_quiet ((go_at_call 14; go_loud (exact Calls.quiet_of (same6_y (R1.drewN _) (R3.drewN _)))))
              go_wp2
              go_roundw
              case rel => exact ⟨r + 1, by omega, by go_num, by rw [HT.out]; go_num, _, by show _ = _; rw [hd.out, World.drewN_drewN]⟩
              case measure => simp [intOf]; omega
          · have D0 := Bd
            clear Bd hd
            obtain ⟨UU, hUU⟩ : ∃ UU, UU = wr := ⟨_, rfl⟩
            subst hUU
            replace w2 := w2.below D0
            replace w3 := w3.below D0
            replace F := F.below D0
            replace Rx := Rx.below D0
            replace B := Below.next B D0
            clear D0 keep
            obtain ⟨i0, hi, hz0, hz1, hz2⟩ := info_parts info_bool
            have hgo : ¬ ((r : Int) < (List.length z2 : Int) ∧ (((thr z2 r).length : Nat) : Int) < (k : Int)) := fun q => hlt ⟨by omega, by omega⟩
            by_cases hlA : r < z2.length
            · have hltA1 : (r : Int) < (List.length z2 : Int) := by omega
              have hltB1 : ¬ (((thr z2 r).length : Nat) : Int) < (k : Int) := fun q => hlt ⟨hlA, by omega⟩
              clear hlt hlA
              go_wp2_with (at_make; go_loud (refine wpList_make_full _ rfl (.tmp 105) (.tmp 105) 23 rfl (World.heap UU |>.size) 4 i0 (.bool false) 1 Try.underlying23 hi hz0 hz1 _ _ _ _ s rfl rfl (by omega) (by omega) (by rw [hz2]; omega) (by unfold maxLen; omega) (Nat.le_refl _) ?_); intro w8 hown8 hgrow8)
              have M8 : Hid (BoolF w8 (World.heap UU |>.size) 4 (World.heap UU |>.size) s (fun _ => false)) := BoolF.made hown8
              have b8 : Hid (Below (World.heap UU |>.size) UU w8) := (Below.refl _ _).grown hgrow8 (Nat.le_refl _) (fun q hq => by cases hq)
              clear hown8 hgrow8
              obtain ⟨g, hg⟩ : ∃ g, Hid (g = (World.heap UU |>.size)) := ⟨_, rfl⟩
              obtain ⟨B0, hB0⟩ : ∃ B0, Hid (B0 = (World.heap UU |>.size)) := ⟨_, rfl⟩
              rw [← hg.out]
              have M9 : Hid (BoolF w8 B0 4 g s (fun i => if i < 0 then (decide ((i : Int) ≠ a4) || decide ((m : Int) = 0)) else false)) := (by rw [hg.out, hB0.out]; simpa using M8.out : BoolF w8 B0 4 g s (fun i => if i < 0 then (decide ((i : Int) ≠ a4) || decide ((m : Int) = 0)) else false))
              have b9 : Hid (Below B0 UU w8) := (by rw [hB0.out]; exact b8.out : Below B0 UU w8)
              clear M8 b8
              go_wp2
              go_loopw [22] (fun i wr => ∃ T : Nat, T ≤ s ∧ i = .int .i64 (T : Int) ∧ BoolF wr B0 4 g s (fun i => if i < T then (decide ((i : Int) ≠ a4) || decide ((m : Int) = 0)) else false) ∧ Below B0 UU wr) (fun i _ => s - (intOf i).toNat)
              case atStart => exact ⟨0, by omega, rfl, M9.out, b9.out⟩
              case round =>
                obtain ⟨T, hT, rfl, hO, hB⟩ := hrel
                clear M9 b9
                by_cases hTs : T < s
                · have hTi : (T : Int) < (s : Int) := by omega
                  have cT := hO.cell hTs
                  have fT := hO.free T
                  have hgB : B0 ≤ g := hO.lt.1
                  by_cases hne : (T : Int) = a4
                  · have q1 : ((T : Int) != a4) = false := by simp [hne]
                    by_cases hm0 : m = 0
                    · have q2 : ((m : Int) == 0) = true := by simp [hm0]
                      have hval : Hid ((decide ((T : Int) ≠ a4) || decide ((m : Int) = 0)) = true) := (by simp [hm0] : (decide ((T : Int) ≠ a4) || decide ((m : Int) = 0)) = true)
                      clear hm0 hne
                      have HN : Hid (BoolF (World.setCell wr ⟨g, T, none⟩ (.bool true)) B0 4 g s (fun i => if i < T + 1 then (decide ((i : Int) ≠ a4) || decide ((m : Int) = 0)) else false)) := hO.store hTs true (fun t ht => by
                        by_cases et : t = T
                        · subst et; rw [if_pos (by omega), if_pos rfl, hval.out]
                        · rw [if_neg et]; by_cases e2 : t < T
                          · rw [if_pos e2, if_pos (by omega)]
                          · rw [if_neg e2, if_neg (by omega)])
                      have HBn : Hid (Below B0 UU (World.setCell wr ⟨g, T, none⟩ (.bool true))) := hB.setCell (p := ⟨g, T, none⟩) hgB _
                      clear hO hB hval
                      go_wp2
                      go_roundw
                      case rel => exact ⟨T + 1, by omega, by go_num, HN.out, HBn.out⟩
                      case measure => simp [intOf]; omega
                    · have q2 : ((m : Int) == 0) = false := by simp; omega
                      have hval : Hid ((decide ((T : Int) ≠ a4) || decide ((m : Int) = 0)) = false) := (by simp [hne]; omega : (decide ((T : Int) ≠ a4) || decide ((m : Int) = 0)) = false)
                      clear hm0 hne
                      have HN : Hid (BoolF (World.setCell wr ⟨g, T, none⟩ (.bool false)) B0 4 g s (fun i => if i < T + 1 then (decide ((i : Int) ≠ a4) || decide ((m : Int) = 0)) else false)) := hO.store hTs false (fun t ht => by
                        by_cases et : t = T
                        · subst et; rw [if_pos (by omega), if_pos rfl, hval.out]
                        · rw [if_neg et]; by_cases e2 : t < T
                          · rw [if_pos e2, if_pos (by omega)]
                          · rw [if_neg e2, if_neg (by omega)])
                      have HBn : Hid (Below B0 UU (World.setCell wr ⟨g, T, none⟩ (.bool false))) := hB.setCell (p := ⟨g, T, none⟩) hgB _
                      clear hO hB hval
                      go_wp2
                      go_roundw
                      case rel => exact ⟨T + 1, by omega, by go_num, HN.out, HBn.out⟩
                      case measure => simp [intOf]; omega
                  · have q1 : ((T : Int) != a4) = true := by simp [hne]
                    have hval : Hid ((decide ((T : Int) ≠ a4) || decide ((m : Int) = 0)) = true) := (by simp [hne] : (decide ((T : Int) ≠ a4) || decide ((m : Int) = 0)) = true)
                    clear hne
                    have HN : Hid (BoolF (World.setCell wr ⟨g, T, none⟩ (.bool true)) B0 4 g s (fun i => if i < T + 1 then (decide ((i : Int) ≠ a4) || decide ((m : Int) = 0)) else false)) := hO.store hTs true (fun t ht => by
                      by_cases et : t = T
                      · subst et; rw [if_pos (by omega), if_pos rfl, hval.out]
                      · rw [if_neg et]; by_cases e2 : t < T
                        · rw [if_pos e2, if_pos (by omega)]
                        · rw [if_neg e2, if_neg (by omega)])
                    have HBn : Hid (Below B0 UU (World.setCell wr ⟨g, T, none⟩ (.bool true))) := hB.setCell (p := ⟨g, T, none⟩) hgB _
                    clear hO hB hval
                    go_wp2
                    go_roundw
                    case rel => exact ⟨T + 1, by omega, by go_num, HN.out, HBn.out⟩
                    case measure => simp [intOf]; omega
                · have hTi : ¬ (T : Int) < (s : Int) := by omega
                  have eT : T = s := by omega
                  subst eT
                  have RA : RdB wr (.slice (some ⟨g, 0, none⟩) T T) (allB7 (k + m) a4 (m : Int)) := by
                    have := hO.rdB (by omega)
                    have e1 : (List.range T).map (fun i => if i < T then (decide ((i : Int) ≠ a4) || decide ((m : Int) = 0)) else false) = allB7 (k + m) a4 (m : Int) := by
                      rw [← hs.out]; exact List.map_congr_left fun i hi => if_pos (List.mem_range.1 hi)
                    rwa [e1] at this
                  have D1 : Below (World.heap UU |>.size) UU wr := by rw [← hB0.out]; exact hB
                  replace w2 := w2.below D1
                  replace w3 := w3.below D1
                  replace F := F.below D1
                  replace Rx := Rx.below D1
                  replace B := Below.next B D1
                  clear D1 hO hB hgo
                  have E := decX_ok (k := k) (m := m) (h := allB7 (k + m) a4 (m : Int)) (okC_mk h1 h2) (self_ok nD.out eD.out (allB7_length _ _ _)) (allB7_few a4)
                  rw [← hX.out] at E
                  have E1 := E.1
                  clear E
                  go_wp2_with fail
                  refine (edec_any (h := allB7 (k + m) a4 (m : Int)) (L := X) (F.below (by repeat (first | exact Below.refl _ _ | apply Below.drewN | apply Below.drew | apply Below.draws | apply below_lit))) (RA.below (by repeat (first | exact Below.refl _ _ | apply Below.drewN | apply Below.drew | apply Below.draws | apply below_lit))) (Rx.below (by repeat (first | exact Below.refl _ _ | apply Below.drewN | apply Below.drew | apply Below.draws | apply below_lit))) ((show Small X by rw [hX.out]; exact enc_small eD.out (by rw [nD.out]; omega) sD.out).h _)).mono ?_
                  rintro e u31 ⟨hV, vy, rfl, Ry, b⟩
                  have hV2 := hV E1 k rfl
                  clear hV
                  have E2 := self_back h1 h2 nD.out eD.out (allB7_length _ _ _) (allB7_few a4) hV2
                  rw [← hX.out] at E2
                  rw [E1]
                  rw [E2] at Ry
                  have D : Below (World.heap wr |>.size) wr u31 := Below.next (by repeat (first | exact Below.refl _ _ | apply Below.drewN | apply Below.drew | apply Below.draws | apply below_lit)) b
                  replace w2 := w2.below D
                  replace w3 := w3.below D
                  replace F := F.below D
                  replace Rx := Rx.below D
                  replace RA := RA.below D
                  replace B := Below.next B D
                  clear b D
                  obtain ⟨ya, yc, ey⟩ := Ry.form
                  rw [nX.out] at ey
                  subst ey
                  clear E1 E2 hV2
                  go_wp2_with fail
                  refine (same6_t (Rx.below (by repeat (first | exact Below.refl _ _ | apply Below.drewN | apply Below.drew | apply Below.draws | apply below_lit))) (Ry.below (by repeat (first | exact Below.refl _ _ | apply Below.drewN | apply Below.drew | apply Below.draws | apply below_lit))) rfl).mono ?_
                  rintro e u32 ⟨rfl, b⟩
                  have D : Below (World.heap u31 |>.size) u31 u32 := Below.next (by repeat (first | exact Below.refl _ _ | apply Below.drewN | apply Below.drew | apply Below.draws | apply below_lit)) b
                  replace w2 := w2.below D
                  replace w3 := w3.below D
                  replace F := F.below D
                  replace Rx := Rx.below D
                  replace RA := RA.below D
                  replace Ry := Ry.below D
                  replace B := Below.next B D
                  clear b D
                  go_wp2
                  go_ret
                  exact ⟨rfl, Below.next B (by repeat (first | exact Below.refl _ _ | apply Below.drewN | apply Below.drew | apply Below.draws | apply below_lit))⟩
            · have hltA1 : ¬ (r : Int) < (List.length z2 : Int) := by omega
              have hltA2 : decide ((r : Int) < (List.length z2 : Int)) = false := decide_eq_false hltA1
              clear hlt hlA
              go_wp2_with (at_make; go_loud (refine wpList_make_full _ rfl (.tmp 105) (.tmp 105) 23 rfl (World.heap UU |>.size) 4 i0 (.bool false) 1 Try.underlying23 hi hz0 hz1 _ _ _ _ s rfl rfl (by omega) (by omega) (by rw [hz2]; omega) (by unfold maxLen; omega) (Nat.le_refl _) ?_); intro w8 hown8 hgrow8)
              have M8 : Hid (BoolF w8 (World.heap UU |>.size) 4 (World.heap UU |>.size) s (fun _ => false)) := BoolF.made hown8
              have b8 : Hid (Below (World.heap UU |>.size) UU w8) := (Below.refl _ _).grown hgrow8 (Nat.le_refl _) (fun q hq => by cases hq)
              clear hown8 hgrow8
              obtain ⟨g, hg⟩ : ∃ g, Hid (g = (World.heap UU |>.size)) := ⟨_, rfl⟩
              obtain ⟨B0, hB0⟩ : ∃ B0, Hid (B0 = (World.heap UU |>.size)) := ⟨_, rfl⟩
              rw [← hg.out]
              have M9 : Hid (BoolF w8 B0 4 g s (fun i => if i < 0 then (decide ((i : Int) ≠ a4) || decide ((m : Int) = 0)) else false)) := (by rw [hg.out, hB0.out]; simpa using M8.out : BoolF w8 B0 4 g s (fun i => if i < 0 then (decide ((i : Int) ≠ a4) || decide ((m : Int) = 0)) else false))
              have b9 : Hid (Below B0 UU w8) := (by rw [hB0.out]; exact b8.out : Below B0 UU w8)
              clear M8 b8
              go_wp2
              go_loopw [22] (fun i wr => ∃ T : Nat, T ≤ s ∧ i = .int .i64 (T : Int) ∧ BoolF wr B0 4 g s (fun i => if i < T then (decide ((i : Int) ≠ a4) || decide ((m : Int) = 0)) else false) ∧ Below B0 UU wr) (fun i _ => s - (intOf i).toNat)
              case atStart => exact ⟨0, by omega, rfl, M9.out, b9.out⟩
              case round =>
                obtain ⟨T, hT, rfl, hO, hB⟩ := hrel
                clear M9 b9
                by_cases hTs : T < s
                · have hTi : (T : Int) < (s : Int) := by omega
                  have cT := hO.cell hTs
                  have fT := hO.free T
                  have hgB : B0 ≤ g := hO.lt.1
                  by_cases hne : (T : Int) = a4
                  · have q1 : ((T : Int) != a4) = false := by simp [hne]
                    by_cases hm0 : m = 0
                    · have q2 : ((m : Int) == 0) = true := by simp [hm0]
                      have hval : Hid ((decide ((T : Int) ≠ a4) || decide ((m : Int) = 0)) = true) := (by simp [hm0] : (decide ((T : Int) ≠ a4) || decide ((m : Int) = 0)) = true)
                      clear hm0 hne
                      have HN : Hid (BoolF (World.setCell wr ⟨g, T, none⟩ (.bool true)) B0 4 g s (fun i => if i < T + 1 then (decide ((i : Int) ≠ a4) || decide ((m : Int) = 0)) else false)) := hO.store hTs true (fun t ht => by
                        by_cases et : t = T
                        · subst et; rw [if_pos (by omega), if_pos rfl, hval.out]
                        · rw [if_neg et]; by_cases e2 : t < T
                          · rw [if_pos e2, if_pos (by omega)]
                          · rw [if_neg e2, if_neg (by omega)])
                      have HBn : Hid (Below B0 UU (World.setCell wr ⟨g, T, none⟩ (.bool true))) := hB.setCell (p := ⟨g, T, none⟩) hgB _
                      clear hO hB hval
                      go_wp2
                      go_roundw
                      case rel => exact ⟨T + 1, by omega, by go_num, HN.out, HBn.out⟩
                      case measure => simp [intOf]; omega
                    · have q2 : ((m : Int) == 0) = false := by simp; omega
                      have hval : Hid ((decide ((T : Int) ≠ a4) || decide ((m : Int) = 0)) = false) := (by simp [hne]; omega : (decide ((T : Int) ≠ a4) || decide ((m : Int) = 0)) = false)
                      clear hm0 hne
                      have HN : Hid (BoolF (World.setCell wr ⟨g, T, none⟩ (.bool false)) B0 4 g s (fun i => if i < T + 1 then (decide ((i : Int) ≠ a4) || decide ((m : Int) = 0)) else false)) := hO.store hTs false (fun t ht => by
                        by_cases et : t = T
                        · subst et; rw [if_pos (by omega), if_pos rfl, hval.out]
                        · rw [if_neg et]; by_cases e2 : t < T
                          · rw [if_pos e2, if_pos (by omega)]
                          · rw [if_neg e2, if_neg (by omega)])
                      have HBn : Hid (Below B0 UU (World.setCell wr ⟨g, T, none⟩ (.bool false))) := hB.setCell (p := ⟨g, T, none⟩) hgB _
                      clear hO hB hval
                      go_wp2
                      go_roundw
                      case rel => exact ⟨T + 1, by omega, by go_num, HN.out, HBn.out⟩
                      case measure => simp [intOf]; omega
                  · have q1 : ((T : Int) != a4) = true := by simp [hne]
                    have hval : Hid ((decide ((T : Int) ≠ a4) || decide ((m : Int) = 0)) = true) := (by simp [hne] : (decide ((T : Int) ≠ a4) || decide ((m : Int) = 0)) = true)
                    clear hne
                    have HN : Hid (BoolF (World.setCell wr ⟨g, T, none⟩ (.bool true)) B0 4 g s (fun i => if i < T + 1 then (decide ((i : Int) ≠ a4) || decide ((m : Int) = 0)) else false)) := hO.store hTs true (fun t ht => by
                      by_cases et : t = T
                      · subst et; rw [if_pos (by omega), if_pos rfl, hval.out]
                      · rw [if_neg et]; by_cases e2 : t < T
                        · rw [if_pos e2, if_pos (by omega)]
                        · rw [if_neg e2, if_neg (by omega)])
                    have HBn : Hid (Below B0 UU (World.setCell wr ⟨g, T, none⟩ (.bool true))) := hB.setCell (p := ⟨g, T, none⟩) hgB _
                    clear hO hB hval
                    go_wp2
                    go_roundw
                    case rel => exact ⟨T + 1, by omega, by go_num, HN.out, HBn.out⟩
                    case measure => simp [intOf]; omega
                · have hTi : ¬ (T : Int) < (s : Int) := by omega
                  have eT : T = s := by omega
                  subst eT
                  have RA : RdB wr (.slice (some ⟨g, 0, none⟩) T T) (allB7 (k + m) a4 (m : Int)) := by
                    have := hO.rdB (by omega)
                    have e1 : (List.range T).map (fun i => if i < T then (decide ((i : Int) ≠ a4) || decide ((m : Int) = 0)) else false) = allB7 (k + m) a4 (m : Int) := by
                      rw [← hs.out]; exact List.map_congr_left fun i hi => if_pos (List.mem_range.1 hi)
                    rwa [e1] at this
                  have D1 : Below (World.heap UU |>.size) UU wr := by rw [← hB0.out]; exact hB
                  replace w2 := w2.below D1
                  replace w3 := w3.below D1
                  replace F := F.below D1
                  replace Rx := Rx.below D1
                  replace B := Below.next B D1
                  clear D1 hO hB hgo
                  have E := decX_ok (k := k) (m := m) (h := allB7 (k + m) a4 (m : Int)) (okC_mk h1 h2) (self_ok nD.out eD.out (allB7_length _ _ _)) (allB7_few a4)
                  rw [← hX.out] at E
                  have E1 := E.1
                  clear E
                  go_wp2_with fail
                  refine (edec_any (h := allB7 (k + m) a4 (m : Int)) (L := X) (F.below (by repeat (first | exact Below.refl _ _ | apply Below.drewN | apply Below.drew | apply Below.draws | apply below_lit))) (RA.below (by repeat (first | exact Below.refl _ _ | apply Below.drewN | apply Below.drew | apply Below.draws | apply below_lit))) (Rx.below (by repeat (first | exact Below.refl _ _ | apply Below.drewN | apply Below.drew | apply Below.draws | apply below_lit))) ((show Small X by rw [hX.out]; exact enc_small eD.out (by rw [nD.out]; omega) sD.out).h _)).mono ?_
                  rintro e u31 ⟨hV, vy, rfl, Ry, b⟩
                  have hV2 := hV E1 k rfl
                  clear hV
                  have E2 := self_back h1 h2 nD.out eD.out (allB7_length _ _ _) (allB7_few a4) hV2
                  rw [← hX.out] at E2
                  rw [E1]
                  rw [E2] at Ry
                  have D : Below (World.heap wr |>.size) wr u31 := Below.next (by repeat (first | exact Below.refl _ _ | apply Below.drewN | apply Below.drew | apply Below.draws | apply below_lit)) b
                  replace w2 := w2.below D
                  replace w3 := w3.below D
                  replace F := F.below D
                  replace Rx := Rx.below D
                  replace RA := RA.below D
                  replace B := Below.next B D
                  clear b D
                  obtain ⟨ya, yc, ey⟩ := Ry.form
                  rw [nX.out] at ey
                  subst ey
                  clear E1 E2 hV2
                  go_wp2_with fail
                  refine (same6_t (Rx.below (by repeat (first | exact Below.refl _ _ | apply Below.drewN | apply Below.drew | apply Below.draws | apply below_lit))) (Ry.below (by repeat (first | exact Below.refl _ _ | apply Below.drewN | apply Below.drew | apply Below.draws | apply below_lit))) rfl).mono ?_
                  rintro e u32 ⟨rfl, b⟩
                  have D : Below (World.heap u31 |>.size) u31 u32 := Below.next (by repeat (first | exact Below.refl _ _ | apply Below.drewN | apply Below.drew | apply Below.draws | apply below_lit)) b
                  replace w2 := w2.below D
                  replace w3 := w3.below D
                  replace F := F.below D
                  replace Rx := Rx.below D
                  replace RA := RA.below D
                  replace Ry := Ry.below D
                  replace B := Below.next B D
                  clear b D
                  go_wp2
                  go_ret
                  exact ⟨rfl, Below.next B (by repeat (first | exact Below.refl _ _ | apply Below.drewN | apply Below.drew | apply Below.draws | apply below_lit))⟩
      · have hb0 : (decX a0 a1 z2 z3 != 0) = true := by simp [hx]
        have hR := dec_not hx
        go_wp2_with fail
        refine (edec_any (k := a0) (m := a1) (F.below (by repeat (first | exact Below.refl _ _ | apply Below.drewN | apply Below.drew | apply Below.draws | apply below_lit))) (w2.below (by repeat (first | exact Below.refl _ _ | apply Below.drewN | apply Below.drew | apply Below.draws | apply below_lit))) (w3.below (by repeat (first | exact Below.refl _ _ | apply Below.drewN | apply Below.drew | apply Below.draws | apply below_lit))) (S3.h z2)).mono ?_
        rintro e u4 ⟨_, vx, rfl, Rx, b⟩
        rw [hR] at Rx
        have D : Below (World.heap u3 |>.size) u3 u4 := Below.next (by repeat (first | exact Below.refl _ _ | apply Below.drewN | apply Below.drew | apply Below.draws | apply below_lit)) b
        replace w2 := w2.below D
        replace w3 := w3.below D
        replace F := F.below D
        replace B := Below.next B D
        clear b D
        obtain ⟨xa, xc, rfl⟩ := Rx.form
        clear Rx
        generalize decX a0 a1 z2 z3 = eX at *
        clear hx hR
        go_wp2
        go_ret
        exact ⟨rfl, Below.next B (by repeat (first | exact Below.refl _ _ | apply Below.drewN | apply Below.drew | apply Below.draws | apply below_lit))⟩

/-! ### THE ROW's STEP: WRITTEN OUT: LEAVE IT -/
set_option maxRecDepth 100000 in
theorem lifted (os : Os) (started : os.Started) (H : Type) (enc : TypeId × Value → H) :
    ReturnsInHanded {} Try.checked os 6 .any (Rows.eraseFitsSpec.pre6 enc Try.prog Try.f6 Rows.eraseFitsRow.domain false) (Rows.eraseFitsSpec.post enc Try.prog Try.f6 false true false false) := by
  refine returnsInHanded_of_change (C := Try.checked) own started (by kernel_rfl) Try.func6
    (ChangeSpec.witness6 (enc := enc) (C := Try.checked) false ⟨#[], #[.int .i64 0, .int .i64 0, .slice none 0 0, .slice none 0 0, .int .i64 0], []⟩ 8 (by kernel_rfl) (by kernel_rfl) (by kernel_rfl) (by kernel_rfl)) ?_
  intro W base args ds gs before hval0 hW hcnd _
  have hval : ∀ (j : Nat) t v, Try.f6.params[j]? = some t → args[j]? = some v → Value.okWide Try.prog W .any base t v := hval0
  have hW' := hW
  obtain ⟨p, q, hA0, hV, rfl, hfz, hnd⟩ := hW
  have hA : DataW.TrodAll enc Try.prog W 0 (fun _ => true) true Try.f6.params.toList args.toList ds p := hA0
  rw [Try.params6] at hA hval
  obtain ⟨v0, vs0, d0, ds0, p0, q0, hargs, rfl, rfl, h0, r0⟩ := trodAll_cons hA
  obtain ⟨v1, vs1, d1, ds1, p1, q1, rfl, rfl, rfl, h1, r1⟩ := trodAll_cons r0
  obtain ⟨v2, vs2, d2, ds2, p2, q2, rfl, rfl, rfl, h2, r2⟩ := trodAll_cons r1
  obtain ⟨v3, vs3, d3, ds3, p3, q3, rfl, rfl, rfl, h3, r3⟩ := trodAll_cons r2
  obtain ⟨v4, vs4, d4, ds4, p4, q4, rfl, rfl, rfl, h4, r4⟩ := trodAll_cons r3
  obtain ⟨rfl, rfl, rfl⟩ := trodAll_nil r4
  obtain rfl : args = #[v0, v1, v2, v3, v4] := by cases args; simp_all
  obtain ⟨rfl, rfl⟩ := trodVars_none hV
  obtain ⟨a0, rfl, rfl, rfl, w0⟩ := open_int Try.underlying3 (hval 0 3 v0 rfl rfl) h0
  obtain ⟨a1, rfl, rfl, rfl, w1⟩ := open_int Try.underlying3 (hval 1 3 v1 rfl rfl) h1
  obtain ⟨a2, len2, cap2, rfl⟩ := okWide_slice Try.underlying23 (hval 2 23 v2 rfl rfl)
  have k2 := h2
  have lt2 : ∀ x ∈ p2, x.block < W.heap.size := by obtain ⟨m, hm⟩ := k2; exact DataW.trod_lt m _ _ _ hm
  obtain ⟨z2, w2⟩ : ∃ zs, RdB W (.slice a2 len2 cap2) zs := by
    obtain ⟨fuel, hf⟩ := h2
    rcases Go.Deep.open_bools Try.underlying23 Try.underlying4 (by kernel_rfl) hf with ⟨hcs, _⟩ | ⟨x, l, c, B, hcs, _, hl, hm, _, hcell⟩
    · simp [Value.cells] at hcs
      obtain ⟨rfl, rfl, rfl⟩ := hcs
      exact ⟨[], rdB_none⟩
    · simp [Value.cells] at hcs
      obtain ⟨rfl, rfl, rfl⟩ := hcs
      exact rdB_row hl hm hcell
  obtain ⟨a3, len3, cap3, rfl⟩ := okWide_slice Try.underlying24 (hval 3 24 v3 rfl rfl)
  have k3 := h3
  have lt3 : ∀ x ∈ p3, x.block < W.heap.size := by obtain ⟨m, hm⟩ := k3; exact DataW.trod_lt m _ _ _ hm
  obtain ⟨z3, w3⟩ : ∃ zs, Rs W (.slice a3 len3 cap3) zs := by
    obtain ⟨fuel, hf⟩ := h3
    rcases Go.Deep.open_int_rows Try.underlying24 Try.underlying34 Try.underlying5 (by kernel_rfl) (by kernel_rfl) hf with ⟨hcs, _⟩ | ⟨x, l, c, A, N, C, Z, hcs, _, hl, hm, _, hrows⟩
    · simp [Value.cells] at hcs
      obtain ⟨rfl, rfl, rfl⟩ := hcs
      exact ⟨[], rs_none⟩
    · simp [Value.cells] at hcs
      obtain ⟨rfl, rfl, rfl⟩ := hcs
      exact rs_rows hl hm hrows
  obtain ⟨a4, rfl, rfl, rfl, w4⟩ := open_int Try.underlying3 (hval 4 3 v4 rfl rfl) h4
  clear hA0 hval0
  refine (walk a0 a1 a2 len2 cap2 z2 a3 len3 cap3 z3 a4 W w0 w1 w2 w3 w4).mono fun e W' ⟨he, bel⟩ => ?_
  subst he
  exact ⟨_, rfl, _, _, _, [], _, [], hW', trodAll_mk1 (shut_bool Try.underlying4 _), (trodAll_cons_mk (shut_int Try.underlying3 w0) (trodAll_cons_mk (shut_int Try.underlying3 w1) (trodAll_cons_mk (Below.trod laidOut (by kernel_rfl) (of_decide_eq_true (by kernel_rfl)) k2 bel lt2) (trodAll_cons_mk (Below.trod laidOut (by kernel_rfl) (of_decide_eq_true (by kernel_rfl)) k3 bel lt3) (trodAll_cons_mk (shut_int Try.underlying3 w4) trodAll_mk0))))), rfl, bel.frame _, fun h => by cases h⟩

theorem over : Rows.eraseFitsRow.holds Try.pinned (OpenSpec.ofChange Rows.eraseFitsSpec) :=
  OpenClaim.holds_of_wide 6 Try.f6 rfl rfl rfl rfl rfl rfl rfl ⟨rfl, rfl, rfl, rfl, rfl⟩ rfl rfl rfl rfl rfl (by kernel_rfl) Try.func6 (by kernel_rfl)
    (of_decide_eq_true (by kernel_rfl)) (by unfold Func.isWrapper; first | (rw [if_pos (by decide +kernel)]; kernel_rfl) | (rw [if_neg (by decide +kernel)]; exact ⟨rfl, rfl⟩))
    (fun os started H enc _ => lifted os started H enc)

/-- ████ THE STATEMENT ████ -/
theorem proved : Rows.EraseFitsSaid := over
end Go.Proofs.Ytkjolopdpihigaa.eraseFits
namespace Go.Proofs.Ytkjolopdpihigaa
theorem eraseFits_holds : Rows.EraseFitsSaid := eraseFits.proved
#print axioms eraseFits_holds
end Go.Proofs.Ytkjolopdpihigaa
