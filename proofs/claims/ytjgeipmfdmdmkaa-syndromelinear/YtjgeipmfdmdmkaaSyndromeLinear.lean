/- PROVED: for all k, m and all lists a and b the call SyndromeLinear(k, m, a, b) returns true, and its arguments read behind it as before; no conditions. -/
import Derived.Test.YtjgeipmfdmdmkaaRows
import Derived.Test.YtjgeipmfdmdmkaaTome6
import Derived.Test.YtjgeipmfdmdmkaaTome7
import Derived.WalkKit
import Derived.ProofKit
import Derived.OpenShut
import Derived.ShutString
import Derived.ChangeOld
import Derived.Below
import Derived.SizedLaws
namespace Go.Proofs.Ytjgeipmfdmdmkaa.syndromeLinear
open Go.ChangeShapes Go.WideShapes Go.ChangeAt Go.RowKit
open Go.ChangeMaps (open_string shut_string)
set_option linter.unusedVariables false

theorem own : ownKnob Try.prog.godebug = none := by kernel_rfl
theorem laidOut : laidOutB Try.prog = true := by kernel_rfl

/-- WHAT THE WALK IS TOLD OF A SLICE OF INTEGERS THAT CAME IN: it is nil; or it leads to a row of 'cap' cells, the numbers 'zs' (the first 'len' are its elements, the rest its spare room), each fitting its kind. -/
def IsRow (k : IntKind) (w : World) (a : Option Addr) (len cap : Nat) (zs : List Int) : Prop :=
  (a = none ∧ len = 0 ∧ cap = 0 ∧ zs = []) ∨
  ∃ x, a = some x ∧ len ≤ cap ∧ cap ≤ maxLen ∧ zs.length = cap ∧ (∀ i, i < zs.length → w.cell? (x.add i) = some (.int k (zs.getD i 0))) ∧ ∀ n ∈ zs, (Lit.int k n).wf = true

open Gf
set_option linter.unusedSimpArgs false
set_option maxRecDepth 100000 in
set_option maxHeartbeats 4000000 in
theorem walk (a0 : Int) (a1 : Int) (a2 : Option Addr) (len2 cap2 : Nat) (z2 : List Int) (a3 : Option Addr) (len3 cap3 : Nat) (z3 : List Int) (w : World) (w0 : (Lit.int .i64 a0).wf = true) (w1 : (Lit.int .i64 a1).wf = true) (w2 : IsRow .u8 w a2 len2 cap2 z2) (s2 : cap2 ≤ 140737488351232) (w3 : IsRow .u8 w a3 len3 cap3 z3) (s3 : cap3 ≤ 140737488351232) :
    Calls Try.prog 5 #[.int .i64 a0, .int .i64 a1, .slice a2 len2 cap2, .slice a3 len3 cap3] w fun e w' => e = .returned (.bool true) ∧ Below w.heap.size w w' := by
  have hc2 := len_cap w2
  have hc3 := len_cap w3
  obtain ⟨p, rfl, w2⟩ := rd_row w2
  obtain ⟨q, rfl, w3⟩ := rd_row w3
  obtain ⟨i0, hi, hz0, hz1, hz2⟩ := info_parts info_u8
  have hpl : p.length ≤ 140737488351232 := by omega
  have hql : q.length ≤ 140737488351232 := by omega
  clear hc2 hc3 s2 s3
  go_enter Try.func5, Try.ntmps5
  have B : Below w.heap.size w w := Below.refl _ _
  go_wp2_with fail
  refine (awake8_any _).mono ?_
  rintro e u1 ⟨rfl, b⟩
  have D : Below (World.heap w |>.size) w u1 := Below.next (by repeat (first | exact Below.refl _ _ | apply Below.drewN | apply Below.drew | apply Below.draws | apply below_lit)) b
  replace w2 := w2.below D
  replace w3 := w3.below D
  replace B := Below.next B D
  clear b D
  go_wp2_with fail
  refine (new_any _).mono ?_
  rintro e u2 ⟨rfl, F, hO⟩
  have b := hO.below
  clear hO
  have D : Below (World.heap u1 |>.size) u1 u2 := Below.next (by repeat (first | exact Below.refl _ _ | apply Below.drewN | apply Below.drew | apply Below.draws | apply below_lit)) b
  replace w2 := w2.below D
  replace w3 := w3.below D
  replace B := Below.next B D
  clear b D
  go_wp2_with fail
  refine (few8_any a0 a1 _).mono ?_
  rintro e u3 ⟨rfl, b⟩
  have D : Below (World.heap u2 |>.size) u2 u3 := Below.next (by repeat (first | exact Below.refl _ _ | apply Below.drewN | apply Below.drew | apply Below.draws | apply below_lit)) b
  replace w2 := w2.below D
  replace w3 := w3.below D
  replace F := F.below D
  replace B := Below.next B D
  clear b D
  generalize fewB a0 a1 = t0
  cases t0
  · skip
    go_wp2
    go_ret
    exact ⟨rfl, Below.next B (by repeat (first | exact Below.refl _ _ | apply Below.drewN | apply Below.drew | apply Below.draws | apply below_lit))⟩
  · by_cases heq : p.length = q.length
    · have q1 : ((p.length : Int) != (q.length : Int)) = false := by rw [heq]; simp
      have HEQ : Hid (p.length = q.length) := heq
      clear heq
      have hN1 : Hid (ofX a0 a1 q = ofX a0 a1 p) := ofX_len HEQ.out
      have hN2 : Hid (ofX a0 a1 (xorP p q) = ofX a0 a1 p) := ofX_len (xorP_length p q).symm
      have hN3 : Hid ((ofR a0 a1 q).length = (ofR a0 a1 p).length) := ofR_len HEQ.out
      have hN4 : Hid ((ofR a0 a1 (xorP p q)).length = (ofR a0 a1 p).length) := ofR_len (xorP_length p q).symm
      have hN5 : Hid (∀ i, i < (ofR a0 a1 p).length → co (ofR a0 a1 (xorP p q)) i = co (ofR a0 a1 p) i ^^^ co (ofR a0 a1 q) i) := fun i hi => ofR_xor HEQ.out hi
      have hN6 : Hid (ofX a0 a1 p = 0 → ((ofR a0 a1 p).length : Int) = a1) := ofR_zero
      obtain ⟨X, hX⟩ : ∃ X, Hid (X = ofX a0 a1 p) := ⟨_, rfl⟩
      obtain ⟨P, hP⟩ : ∃ P, Hid (P = ofR a0 a1 p) := ⟨_, rfl⟩
      obtain ⟨Q, hQ⟩ : ∃ Q, Hid (Q = ofR a0 a1 q) := ⟨_, rfl⟩
      rw [← hX.out] at hN1 hN2 hN6
      rw [← hP.out] at hN3 hN4 hN5 hN6
      rw [← hQ.out] at hN3 hN5
      go_wp2_with fail
      refine (sof_any (k := a0) (m := a1) (F.below (by repeat (first | exact Below.refl _ _ | apply Below.drewN | apply Below.drew | apply Below.draws | apply below_lit))) (w2.below (by repeat (first | exact Below.refl _ _ | apply Below.drewN | apply Below.drew | apply Below.draws | apply below_lit)))).mono ?_
      rintro e u4 ⟨vx, rfl, Rx, b⟩
      rw [← hX.out]
      rw [← hP.out] at Rx
      obtain ⟨xa, xc, rfl⟩ := Rx.form
      have D : Below (World.heap u3 |>.size) u3 u4 := Below.next (by repeat (first | exact Below.refl _ _ | apply Below.drewN | apply Below.drew | apply Below.draws | apply below_lit)) b
      replace w2 := w2.below D
      replace w3 := w3.below D
      replace F := F.below D
      replace B := Below.next B D
      clear b D
      go_wp2_with fail
      refine (sof_any (k := a0) (m := a1) (F.below (by repeat (first | exact Below.refl _ _ | apply Below.drewN | apply Below.drew | apply Below.draws | apply below_lit))) (w3.below (by repeat (first | exact Below.refl _ _ | apply Below.drewN | apply Below.drew | apply Below.draws | apply below_lit)))).mono ?_
      rintro e u5 ⟨vy, rfl, Ry, b⟩
      rw [hN1.out]
      rw [← hQ.out] at Ry
      obtain ⟨ya, yc, ey⟩ := Ry.form
      rw [hN3.out] at ey
      subst ey
      have D : Below (World.heap u4 |>.size) u4 u5 := Below.next (by repeat (first | exact Below.refl _ _ | apply Below.drewN | apply Below.drew | apply Below.draws | apply below_lit)) b
      replace w2 := w2.below D
      replace w3 := w3.below D
      replace F := F.below D
      replace Rx := Rx.below D
      replace B := Below.next B D
      clear b D
      go_wp2
      go_loopw [15, 16] (fun o v wr => ∃ i : Nat, i ≤ p.length ∧ v = .int .i64 i ∧ wr.ownsRow (World.heap u5 |>.size) 5 1 o i ((upto (fun i => co p i ^^^ co q i) i).map vb) ∧ Below (World.heap u5 |>.size) u5 wr) (fun _ v _ => p.length - (intOf v).toNat)
      case atStart => exact ⟨0, by omega, rfl, World.ownsRow_nil _ _ _ _, Below.refl _ _⟩
      case round =>
        obtain ⟨i, hi9, rfl, hown, hbel⟩ := hrel
        have hsz := hbel.size
        obtain ⟨av, cv, rfl⟩ := owns_form hown
        by_cases hlt : i < p.length
        · have hlt' : (i : Int) < (p.length : Int) := by omega
          have hltq : i < q.length := by rw [← HEQ.out]; exact hlt
          have hltq' : (i : Int) < (q.length : Int) := by omega
          obtain ⟨pb, po, rfl, hpb, cp⟩ := w2.byte (i := i) hlt
          obtain ⟨qb, qo, rfl, hqb, cq⟩ := w3.byte (i := i) hltq
          have k1 := (hbel.cell (p := ⟨pb, po + i, none⟩) hpb).trans cp
          have k2 := (hbel.cell (p := ⟨qb, qo + i, none⟩) hqb).trans cq
          have E := xor_u8 (co p i) (co q i)
          have HS : Hid (∀ (v' : Value) (w1 : World), World.ownsRow w1 (World.heap u5 |>.size) 5 1 v' (i + 1) ((upto (fun i => co p i ^^^ co q i) i).map vb ++ [co p i ^^^ co q i].map vb) → World.ownsRow w1 (World.heap u5 |>.size) 5 1 v' (i + 1) ((upto (fun i => co p i ^^^ co q i) (i + 1)).map vb)) := fun v' w1 h => by
            rw [upto_vb_succ]; exact h
          clear cp cq w2 w3 Rx Ry F
          go_wp2
          go_region_held3 (fun wx => wx.cell? ⟨pb, po + i, none⟩ = some (.int .u8 ((co p i).toNat : Nat)) ∧ wx.cell? ⟨qb, qo + i, none⟩ = some (.int .u8 ((co q i).toNat : Nat))) (first | exact ⟨k1, k2⟩ | exact ⟨cell_alloc8 k1 _, cell_alloc8 k2 _⟩ | exact ⟨cell_grown8 hg5 (cell_alloc8 k1 _) hpb (fun q hq => (World.ownsRow.lt hown q hq).1), cell_grown8 hg5 (cell_alloc8 k2 _) hqb (fun q hq => (World.ownsRow.lt hown q hq).1)⟩) ((refine step_append_big rfl (.tmp 61) (.tmp 71) 22 rfl (World.heap u5 |>.size) 5 i0 Try.underlying22 hi hz0 hz1 hz2 (.slice av i cv) i _ rfl (World.ownsRow.alloc (World.ownsRow.drew hown) _) (.slice (some ⟨wr.heap.size, 0, none⟩) 1 1) (co p i ^^^ co q i) rfl (rd_lit _ rfl (by simp [vb, UInt8.toNat_xor]) (by decide)) (by omega) (by simp; omega) ?_; intro v' w5 hv5 hg5))
          have HN : Hid _ := HS.out _ _ hv5
          have HB : Hid (Below (World.heap u5 |>.size) u5 w5) := ((hbel.alloc hsz _).drew).grown hg5 (by show (World.heap u5 |>.size) ≤ (World.alloc wr _).heap.size; simp; omega) (fun q hq => (World.ownsRow.lt hown q hq).1)
          clear hv5 hg5 hbel hown k1 k2 E HS
          go_wp2
          go_roundw
          case rel => exact ⟨i + 1, by omega, by go_num, HN.out, HB.out⟩
          case measure => simp [intOf]; omega
        · have e : i = p.length := by omega
          have hge : ¬ (i : Int) < (p.length : Int) := by omega
          have RT : Rd wr (.slice av i cv) (xorP p q) := by
            unfold xorP
            rw [← e]
            exact Rd.owned (base := (World.heap u5 |>.size)) (e := 5) (by rw [upto_length]; exact hown)
          obtain ⟨T, hT⟩ : ∃ T, Hid (T = xorP p q) := ⟨_, rfl⟩
          rw [← hT.out] at RT hN2 hN4 hN5
          replace Rx := Rx.below hbel
          replace Ry := Ry.below hbel
          replace F := F.below hbel
          replace B := Below.next B hbel
          clear e hown hbel w2 w3
          go_wp2_with fail
          refine (sof_any (k := a0) (m := a1) (F.below (by repeat (first | exact Below.refl _ _ | apply Below.drewN | apply Below.drew | apply Below.draws | apply below_lit))) (RT.below (by repeat (first | exact Below.refl _ _ | apply Below.drewN | apply Below.drew | apply Below.draws | apply below_lit)))).mono ?_
          rintro e u6 ⟨vz, rfl, Rz, b⟩
          have D : Below (World.heap wr |>.size) wr u6 := Below.next (by repeat (first | exact Below.refl _ _ | apply Below.drewN | apply Below.drew | apply Below.draws | apply below_lit)) b
          replace Rx := Rx.below D
          replace Ry := Ry.below D
          replace F := F.below D
          replace RT := RT.below D
          replace B := Below.next B D
          clear b D
          rw [hN2.out]
          obtain ⟨Z, hZ⟩ : ∃ Z, Hid (Z = ofR a0 a1 T) := ⟨_, rfl⟩
          rw [← hZ.out] at hN4 hN5 Rz
          obtain ⟨za, zc, ez⟩ := Rz.form
          rw [hN4.out] at ez
          subst ez
          clear RT F hge
          by_cases hX0 : X = 0
          · have hX1 : (X != 0) = false := by simp [hX0]
            have hm := hN6.out hX0
            have hX2 : (X == 0) = true := by simp [hX0]
            have hX9 : Hid _ := hX0
            clear hX0
            have q4 : ((P.length : Int) != a1) = false := by simp [hm]
            have hm9 : Hid _ := hm
            have hPl := Rx.len
            unfold maxLen at hPl
            clear hm
            go_wp2
            go_loopw [19] (fun v wr => ∃ i : Nat, i ≤ P.length ∧ v = .int .i64 i ∧ ∃ nd, wr = World.drewN u6 nd) (fun v _ => P.length - (intOf v).toNat)
            case atStart => exact ⟨0, by omega, rfl, 0, rfl⟩
            case round =>
              obtain ⟨i, hi9, rfl, nd, hd0⟩ := hrel
              have hd : Hid (wr = World.drewN u6 nd) := hd0
              have hm2 := hm9.out
              by_cases hlt : i < P.length
              · have hlt' : (i : Int) < a1 := by omega
                have hlt2 : (i : Int) < (P.length : Int) := by omega
                clear hm2
                obtain ⟨xb, xo, rfl, _, cx⟩ := Rx.byte (i := i) hlt
                obtain ⟨yb, yo, rfl, _, cy⟩ := Ry.byte (i := i) (by rw [hN3.out]; exact hlt)
                obtain ⟨zb, zo, rfl, _, cz⟩ := Rz.byte (i := i) (by rw [hN4.out]; exact hlt)
                rw [hN5.out i hlt, UInt8.toNat_xor] at cz
                have cx2 : World.cell? wr ⟨xb, xo + i, none⟩ = some (.int .u8 ((co P i).toNat : Nat)) := by rw [hd0]; exact cx
                have cy2 : World.cell? wr ⟨yb, yo + i, none⟩ = some (.int .u8 ((co Q i).toNat : Nat)) := by rw [hd0]; exact cy
                have cz2 : World.cell? wr ⟨zb, zo + i, none⟩ = some (.int .u8 (((co P i).toNat ^^^ (co Q i).toNat : Nat) : Int)) := by rw [hd0]; exact cz
                have E := xor_u8 (co P i) (co Q i)
                rw [UInt8.toNat_xor] at E
                have q3 : ((((co P i).toNat ^^^ (co Q i).toNat : Nat) : Int) != (((co P i).toNat ^^^ (co Q i).toNat : Nat) : Int)) = false := by simp
                clear cx cy cz hd0 Rx Ry Rz
                go_wp2
                go_quiet (fail)
                go_wp2
                go_roundw
                case rel => exact ⟨i + 1, by omega, by go_num, _, by show _ = _; rw [hd.out, World.drewN_drewN]⟩
                case measure => simp [intOf]; omega
              · have hge : ¬ (i : Int) < a1 := by omega
                clear hd0 Rx Ry Rz hm2
                go_wp2
                go_ret
                exact ⟨rfl, by rw [hd.out]; exact Below.draws B nd⟩
          · have hX1 : (X != 0) = true := by simp [hX0]
            have hX2 : (X == X) = true := by simp
            clear hX0
            go_wp2
            go_ret
            exact ⟨rfl, Below.next B (by repeat (first | exact Below.refl _ _ | apply Below.drewN | apply Below.drew | apply Below.draws | apply below_lit))⟩
    · have q1 : ((p.length : Int) != (q.length : Int)) = true := by simp; omega
      clear heq
      go_wp2
      go_ret
      exact ⟨rfl, Below.next B (by repeat (first | exact Below.refl _ _ | apply Below.drewN | apply Below.drew | apply Below.draws | apply below_lit))⟩

/-! ### THE ROW's STEP: WRITTEN OUT: LEAVE IT -/
set_option maxRecDepth 100000 in
theorem lifted (os : Os) (started : os.Started) (H : Type) (enc : TypeId × Value → H) :
    ReturnsInHanded {} Try.checked os 5 .any (Rows.syndromeLinearSpec.pre6 enc Try.prog Try.f5 Rows.syndromeLinearRow.domain false) (Rows.syndromeLinearSpec.post enc Try.prog Try.f5 false true false false) := by
  refine returnsInHanded_of_change_sized (C := Try.checked) own started (by kernel_rfl) Try.func5
    (ChangeSpec.witness6 (enc := enc) (C := Try.checked) false ⟨#[], #[.int .i64 0, .int .i64 0, .slice none 0 0, .slice none 0 0], []⟩ 8 (by kernel_rfl) (by kernel_rfl) (by kernel_rfl) (by kernel_rfl)) ?_
  intro W base args ds gs before hval0 hW hcnd hsz0 _
  have hsz : (DataW.weightsEach Try.prog (Try.f5.params.toList ++ Rows.syndromeLinearSpec.plain.varTypes Try.prog) (ds ++ gs)).all (· ≤ reachBytes) = true := hsz0
  clear hsz0
  have hval : ∀ (j : Nat) t v, Try.f5.params[j]? = some t → args[j]? = some v → Value.okWide Try.prog W .any base t v := hval0
  have hW' := hW
  obtain ⟨p, q, hA0, hV, rfl, hfz, hnd⟩ := hW
  have hA : DataW.TrodAll enc Try.prog W 0 (fun _ => true) true Try.f5.params.toList args.toList ds p := hA0
  rw [Try.params5] at hA hval hsz
  obtain ⟨v0, vs0, d0, ds0, p0, q0, hargs, rfl, rfl, h0, r0⟩ := trodAll_cons hA
  obtain ⟨v1, vs1, d1, ds1, p1, q1, rfl, rfl, rfl, h1, r1⟩ := trodAll_cons r0
  obtain ⟨v2, vs2, d2, ds2, p2, q2, rfl, rfl, rfl, h2, r2⟩ := trodAll_cons r1
  obtain ⟨v3, vs3, d3, ds3, p3, q3, rfl, rfl, rfl, h3, r3⟩ := trodAll_cons r2
  obtain ⟨rfl, rfl, rfl⟩ := trodAll_nil r3
  obtain rfl : args = #[v0, v1, v2, v3] := by cases args; simp_all
  obtain ⟨rfl, rfl⟩ := trodVars_none hV
  obtain ⟨a0, rfl, rfl, rfl, w0⟩ := open_int Try.underlying3 (hval 0 3 v0 rfl rfl) h0
  obtain ⟨a1, rfl, rfl, rfl, w1⟩ := open_int Try.underlying3 (hval 1 3 v1 rfl rfl) h1
  obtain ⟨a2, len2, cap2, rfl⟩ := okWide_slice Try.underlying22 (hval 2 22 v2 rfl rfl)
  have k2 := h2
  have lt2 : ∀ x ∈ p2, x.block < W.heap.size := by obtain ⟨m, hm⟩ := k2; exact DataW.trod_lt m _ _ _ hm
  obtain ⟨z2, w2, s2⟩ : ∃ zs, IsRow .u8 W a2 len2 cap2 zs ∧ cap2 ≤ 140737488351232 := by
    obtain ⟨fuel, hf⟩ := h2
    rcases open_ints Try.underlying22 Try.underlying5 (by kernel_rfl) hf with ⟨hcs, _⟩ | ⟨x, l, c, zs, hcs, _, hl, hm, hz, hdt, hcell, hwz⟩
    · simp [Value.cells] at hcs
      obtain ⟨rfl, rfl, rfl⟩ := hcs
      exact ⟨[], .inl ⟨rfl, rfl, rfl, rfl⟩, Nat.zero_le _⟩
    · simp [Value.cells] at hcs
      obtain ⟨rfl, rfl, rfl⟩ := hcs
      have hd : d2 = _ := congrArg Prod.fst hdt
      have hz' : zs.length = cap2 := by simpa using hz
      have hb := sized_slice hsz (j := 2) (t := 22) (e := 5) rfl (by rw [hd]; rfl) Try.underlying22
      rw [show Try.prog.bytesOf 5 = 1 by kernel_rfl] at hb
      simp only [lits, List.length_map, List.length_take, List.length_drop, reachBytes] at hb
      exact ⟨zs, .inr ⟨_, rfl, hl, hm, by simpa using hz, hcell, hwz⟩, by omega⟩
  obtain ⟨a3, len3, cap3, rfl⟩ := okWide_slice Try.underlying22 (hval 3 22 v3 rfl rfl)
  have k3 := h3
  have lt3 : ∀ x ∈ p3, x.block < W.heap.size := by obtain ⟨m, hm⟩ := k3; exact DataW.trod_lt m _ _ _ hm
  obtain ⟨z3, w3, s3⟩ : ∃ zs, IsRow .u8 W a3 len3 cap3 zs ∧ cap3 ≤ 140737488351232 := by
    obtain ⟨fuel, hf⟩ := h3
    rcases open_ints Try.underlying22 Try.underlying5 (by kernel_rfl) hf with ⟨hcs, _⟩ | ⟨x, l, c, zs, hcs, _, hl, hm, hz, hdt, hcell, hwz⟩
    · simp [Value.cells] at hcs
      obtain ⟨rfl, rfl, rfl⟩ := hcs
      exact ⟨[], .inl ⟨rfl, rfl, rfl, rfl⟩, Nat.zero_le _⟩
    · simp [Value.cells] at hcs
      obtain ⟨rfl, rfl, rfl⟩ := hcs
      have hd : d3 = _ := congrArg Prod.fst hdt
      have hz' : zs.length = cap3 := by simpa using hz
      have hb := sized_slice hsz (j := 3) (t := 22) (e := 5) rfl (by rw [hd]; rfl) Try.underlying22
      rw [show Try.prog.bytesOf 5 = 1 by kernel_rfl] at hb
      simp only [lits, List.length_map, List.length_take, List.length_drop, reachBytes] at hb
      exact ⟨zs, .inr ⟨_, rfl, hl, hm, by simpa using hz, hcell, hwz⟩, by omega⟩
  clear hA0 hval0
  refine (walk a0 a1 a2 len2 cap2 z2 a3 len3 cap3 z3 W w0 w1 w2 s2 w3 s3).mono fun e W' ⟨he, bel⟩ => ?_
  subst he
  exact ⟨_, rfl, _, _, _, [], _, [], hW', trodAll_mk1 (shut_bool Try.underlying4 _), (trodAll_cons_mk (shut_int Try.underlying3 w0) (trodAll_cons_mk (shut_int Try.underlying3 w1) (trodAll_cons_mk (Below.trod laidOut (by kernel_rfl) (of_decide_eq_true (by kernel_rfl)) k2 bel lt2) (trodAll_cons_mk (Below.trod laidOut (by kernel_rfl) (of_decide_eq_true (by kernel_rfl)) k3 bel lt3) trodAll_mk0)))), rfl, bel.frame _, fun h => by cases h⟩

theorem over : Rows.syndromeLinearRow.holds Try.pinned (OpenSpec.ofChange Rows.syndromeLinearSpec) :=
  OpenClaim.holds_of_wide 5 Try.f5 rfl rfl rfl rfl rfl rfl rfl ⟨rfl, rfl, rfl, rfl, rfl⟩ rfl rfl rfl rfl rfl (by kernel_rfl) Try.func5 (by kernel_rfl)
    (of_decide_eq_true (by kernel_rfl)) (by unfold Func.isWrapper; first | (rw [if_pos (by decide +kernel)]; kernel_rfl) | (rw [if_neg (by decide +kernel)]; exact ⟨rfl, rfl⟩))
    (fun os started H enc _ => lifted os started H enc)

/-- ████ THE STATEMENT ████ -/
theorem proved : Rows.SyndromeLinearSaid := over
end Go.Proofs.Ytjgeipmfdmdmkaa.syndromeLinear
namespace Go.Proofs.Ytjgeipmfdmdmkaa
theorem syndromeLinear_holds : Rows.SyndromeLinearSaid := syndromeLinear.proved
#print axioms syndromeLinear_holds
end Go.Proofs.Ytjgeipmfdmdmkaa
