/- TEXTS JOINED: ReRefO, ReOL, ReCH, ReCut. -/
import Derived.Test.YthmoiffkgcnjmaaQome7
import Derived.Laws.Cover1
namespace Go.Proofs.Ythmoiffkgcnjmaa.Gf
set_option linter.unusedVariables false
set_option linter.unusedSimpArgs false
open Go.RowKit
def aggO (c : ObV) : Value := .agg #[sv c.o.key, .int .i64 c.o.len, .int .i64 c.o.ep, c.vs]
theorem RdO.at {w : World} {a : Option Addr} {n c : Nat} {L : List ObV} (h : RdO w (.slice a n c) L) {i : Nat} (hi : i < L.length) : ∃ b off, a = some ⟨b, off, none⟩ ∧ b < w.heap.size ∧ ObAt w b (off + i * 4) (L.getD i default) := by
  rcases h with ⟨_, _, e, _⟩ | ⟨b, off, cap, _, e, _, hb, hc⟩
  · subst e; simp at hi
  · simp at e
    obtain ⟨rfl, rfl, rfl⟩ := e
    exact ⟨b, off, rfl, hb, hc i hi⟩
def Little16 (L : List ObV) : Prop := L.length ≤ 70 ∧ ∀ i, i < L.length → (L.getD i default).o.key.length ≤ 100 ∧ (L.getD i default).o.st.length ≤ 300
set_option maxRecDepth 100000 in
set_option maxHeartbeats 2000000 in
theorem little16_any {w : World} {v : Value} {L : List ObV} (h : RdO w v L) : Calls Try.prog 19 #[v] w (Says16 (Little16 L) w) := by
  obtain ⟨a, cp, rfl⟩ := h.form
  by_cases h5 : (L.length : Int) > 70
  · have N : Hid (¬ Little16 L) := fun q => by have := q.1; omega
    clear h
    go_enter Try.func19, Try.ntmps19
    go_wp2
    go_ret
    exact Says16.no N.out rfl (Below.refl _ _)
  · go_enter Try.func19, Try.ntmps19
    go_wp2
    go_loopw [3] (fun i wr => ∃ r : Nat, r ≤ L.length ∧ i = .int .i64 (r : Int) ∧ wr = w ∧ Hid (∀ j, j < r → (L.getD j default).o.key.length ≤ 100 ∧ (L.getD j default).o.st.length ≤ 300)) (fun i _ => L.length - (intOf i).toNat)
    case atStart => exact ⟨0, Nat.zero_le _, rfl, rfl, fun j hj => absurd hj (Nat.not_lt_zero _)⟩
    case round =>
      obtain ⟨r, hr, rfl, rfl, hall⟩ := hrel
      by_cases hlt : r < L.length
      · have hlt' : (r : Int) < (L.length : Int) := by omega
        obtain ⟨b, off, rfl, _, cz⟩ := h.at hlt
        have HA : Hid ((L.getD r default).o.key.length ≤ 100 → (L.getD r default).o.st.length ≤ 300 → ∀ j, j < r + 1 → (L.getD j default).o.key.length ≤ 100 ∧ (L.getD j default).o.st.length ≤ 300) := fun q q2 j hj => by
          by_cases e : j = r
          · rw [e]; exact ⟨q, q2⟩
          · exact hall.out j (by omega)
        have HN : Hid (((L.getD r default).o.key.length > 100 ∨ (L.getD r default).o.st.length > 300) → ¬ Little16 L) := fun q k => by have := k.2 r hlt; omega
        generalize L.getD r default = c at cz HA HN
        obtain ⟨⟨ky, ln, ep, st⟩, vs⟩ := c
        obtain ⟨a2, c2, e⟩ := cz.rs.form
        simp only at e HA HN
        subst e
        have z0 : wr.cell? ⟨b, off + r * 4, none⟩ = some (.string ⟨ky.toArray⟩) := cz.c0
        have z3 : wr.cell? ⟨b, off + r * 4 + 3, none⟩ = some (.slice a2 st.length c2) := cz.c3
        clear h hall cz
        by_cases h1 : (ky.length : Int) > 100
        · have N : Hid _ := HN.out (Or.inl (by omega))
          clear HA HN
          go_wp2
          go_ret
          exact Says16.no N.out rfl (Below.refl _ _)
        by_cases h2 : (st.length : Int) > 300
        · have N : Hid _ := HN.out (Or.inr (by omega))
          clear HA HN
          go_wp2
          go_ret
          exact Says16.no N.out rfl (Below.refl _ _)
        · have H3 : Hid _ := HA.out (by omega) (by omega)
          clear HA HN
          go_wp2
          go_roundw
          case rel => exact ⟨r + 1, by omega, by go_num, by first | rfl | trivial, H3.out⟩
          case measure => simp [intOf]; omega
      · obtain rfl : r = L.length := by omega
        have hge : ¬ (L.length : Int) < (L.length : Int) := by omega
        have Y : Hid (Little16 L) := ⟨by omega, hall.out⟩
        clear h hall
        go_wp2
        go_ret
        exact Says16.yes Y.out rfl (Below.refl _ _)
end Go.Proofs.Ythmoiffkgcnjmaa.Gf

namespace Go.Proofs.Ythmoiffkgcnjmaa.Gf
set_option linter.unusedVariables false
set_option linter.unusedSimpArgs false
open Go.RowKit
/-- the order of keys is whole -/
theorem lessK (a b : List UInt8) : Op.bytesLess a b = upK a b := by
  unfold upK
  induction a generalizing b with
  | nil =>
    cases b with
    | nil => rfl
    | cons y b => rfl
  | cons x a ih =>
    cases b with
    | nil => rfl
    | cons y b =>
      unfold Op.bytesLess
      rw [ih b]
      by_cases e : x = y
      · subst e
        simp
      · have e' : ¬ y = x := fun q => e q.symm
        by_cases l : x < y
        · have l' : ¬ y < x := fun q => by have := UInt8.lt_asymm l; exact this q
          simp [e, e', l, l']
        · have l' : y < x := by
            have h1 : x.toNat ≠ y.toNat := fun q => e (UInt8.toNat_inj.1 q)
            have h2 : ¬ x.toNat < y.toNat := fun q => l (UInt8.lt_iff_toNat_lt.2 q)
            exact UInt8.lt_iff_toNat_lt.2 (by omega)
          simp [e, e', l, l']
def oL (L : List ObV) : List ObS := L.map ObV.o
theorem oL_getD (L : List ObV) (i : Nat) : (oL L).getD i default = (L.getD i default).o := by
  unfold oL
  by_cases h : i < L.length
  · simp [List.getD, h]
  · simp [List.getD, Nat.le_of_not_lt h]; rfl
theorem oL_length (L : List ObV) : (oL L).length = L.length := by simp [oL]
def Up16 (L : List ObV) (r : Nat) : Prop := ∀ i, i < r → OkO (L.getD i default).o ∧ (0 < i → upK (L.getD (i - 1) default).o.key (L.getD i default).o.key = true)
theorem up_step {L : List ObV} {r : Nat} (h : Up16 L r) (h1 : OkO (L.getD r default).o) (h2 : 0 < r → upK (L.getD (r - 1) default).o.key (L.getD r default).o.key = true) : Up16 L (r + 1) := fun i hi => by
  by_cases e : i = r
  · subst e; exact ⟨h1, h2⟩
  · exact h i (by omega)
theorem may_up {L : List ObV} : MayL (oL L) ↔ L.length ≤ 64 ∧ Up16 L L.length ∧ cntO (oL L) ≤ 256 := by
  unfold MayL Up16
  rw [oL_length]
  simp only [oL_getD]
theorem cnt_take {L : List ObV} {r : Nat} (h : r < L.length) : cntO ((oL L).take (r + 1)) = cntO ((oL L).take r) + (L.getD r default).o.st.length := by
  have h' : r < (oL L).length := by rw [oL_length]; exact h
  rw [List.take_succ_eq_append_getElem h', cntO_append]
  show _ + ((oL L)[r].st.length + 0) = _
  have e : (oL L)[r] = (L.getD r default).o := by
    rw [← oL_getD, List.getD_eq_getElem?_getD, List.getElem?_eq_getElem h']; rfl
  rw [e]; omega
end Go.Proofs.Ythmoiffkgcnjmaa.Gf

namespace Go.Proofs.Ythmoiffkgcnjmaa.Gf
set_option linter.unusedVariables false
set_option linter.unusedSimpArgs false
open Go.RowKit
set_option maxRecDepth 100000 in
theorem put16_any {c : ObV} {w : World} (h : RdI w c.vs c.o.st) : Calls Try.prog 38 #[aggO c] w fun e w' => e = .returned (aggR ⟨putR c.o, c.vs⟩) ∧ Below w.heap.size w w' := by
  obtain ⟨⟨ky, ln, ep, st⟩, vs⟩ := c
  obtain ⟨a, n, e⟩ := h.form
  simp only at e
  subst e
  clear h
  show Calls Try.prog 38 #[.agg #[.string ⟨ky.toArray⟩, .int .i64 ln, .int .i64 ep, .slice a st.length n]] w _
  go_enter Try.func38, Try.ntmps38
  go_wp2
  obtain ⟨W, hW⟩ : ∃ W, W = (w.alloc (.cells #[.string ⟨ky.toArray⟩, .int .i64 ln, .int .i64 ep, .slice a st.length n] 62)).alloc (.cells #[.int .i64 1, .string ⟨ky.toArray⟩, .int .i64 ln, .slice a st.length n] 25) := ⟨_, rfl⟩
  have z : ∀ j, W.cell? ⟨w.heap.size + 1, j, none⟩ = #[Value.int .i64 1, .string ⟨ky.toArray⟩, .int .i64 ln, .slice a st.length n][j]? := fun j => by
    rw [hW, show w.heap.size + 1 = (w.alloc (.cells #[.string ⟨ky.toArray⟩, .int .i64 ln, .int .i64 ep, .slice a st.length n] 62)).heap.size by simp, World.cell?_alloc_new]
  have b : Below w.heap.size w W := by rw [hW]; exact (belR _ _).trans ((belR _ _).mono (by simp))
  have z0 := z 0
  have z1 := z 1
  have z2 := z 2
  have z3 := z 3
  simp at z0 z1 z2 z3
  rw [← hW]
  exact bodyPost_ret (v := .agg #[.int .i64 1, .string ⟨ky.toArray⟩, .int .i64 ln, .slice a st.length n]) (by simp [results, Try.results38, go_sem, z0, z1, z2, z3]) rfl ⟨rfl, b⟩
theorem ObAt.in_put {w : World} {b off : Nat} {c : ObV} (h : ObAt w b off c) : RcV.In w ⟨putR c.o, c.vs⟩ := ⟨by show (Lit.int .i64 1).wf = true; decide, h.wl, h.ky, h.rs, h.wi⟩
set_option maxRecDepth 100000 in
set_option maxHeartbeats 4000000 in
theorem mbt16_any {w : World} {v : Value} {L : List ObV} (h : RdO w v L) (hs : ∀ i, i < L.length → (L.getD i default).o.st.length ≤ 1000000) : Calls Try.prog 36 #[v] w (Says16 (MayL (oL L)) w) := by
  obtain ⟨a, cp, rfl⟩ := h.form
  by_cases h5 : (L.length : Int) > 64
  · have N : Hid (¬ MayL (oL L)) := fun q => by have := q.1; rw [oL_length] at this; omega
    clear h hs
    go_enter Try.func36, Try.ntmps36
    go_wp2
    go_ret
    exact Says16.no N.out rfl (Below.refl _ _)
  go_enter Try.func36, Try.ntmps36
  go_wp2
  go_loopw [3, 11] (fun n i wr => ∃ r : Nat, r ≤ L.length ∧ i = .int .i64 (r : Int) ∧ n = .int .i64 ((cntO ((oL L).take r) : Nat) : Int) ∧ Hid (Below w.heap.size w wr) ∧ Hid (Up16 L r) ∧ Hid (cntO ((oL L).take r) ≤ r * 1000000)) (fun _ i _ => L.length - (intOf i).toNat)
  case atStart => exact ⟨0, Nat.zero_le _, rfl, rfl, Below.refl _ _, fun j hj => absurd hj (Nat.not_lt_zero _), Nat.zero_le _⟩
  case round =>
    obtain ⟨r, hr, rfl, rfl, hB, hup, hcn⟩ := hrel
    by_cases hlt : r < L.length
    · have hlt' : (r : Int) < (L.length : Int) := by omega
      obtain ⟨b, off, rfl, hb, cz⟩ := (h.below hB.out).at hlt
      have hsr := hs r hlt
      have CT := cnt_take hlt
      have CN := hcn.out
      have HU : Hid (OkO (L.getD r default).o → (0 < r → upK (L.getD (r - 1) default).o.key (L.getD r default).o.key = true) → Up16 L (r + 1)) := fun q1 q2 => up_step hup.out q1 q2
      have HN : Hid (¬ OkO (L.getD r default).o → ¬ MayL (oL L)) := fun q k => q ((may_up.1 k).2.1 r hlt).1
      have HK : Hid (0 < r → upK (L.getD (r - 1) default).o.key (L.getD r default).o.key = false → ¬ MayL (oL L)) := fun q1 q2 k => by
        have := ((may_up.1 k).2.1 r hlt).2 q1
        rw [q2] at this; cases this
      have PV : Hid (0 < r → ∃ k1 : List UInt8, k1 = (L.getD (r - 1) default).o.key ∧ wr.cell? ⟨b, off + (r - 1) * 4, none⟩ = some (.string ⟨k1.toArray⟩)) := fun q => by
        obtain ⟨b', off', e, _, cz'⟩ := (h.below hB.out).at (i := r - 1) (by omega)
        simp at e
        obtain ⟨rfl, rfl⟩ := e
        exact ⟨_, rfl, cz'.c0⟩
      have PK := put16_any (c := L.getD r default) (w := wr.alloc (.cells #[sv (L.getD r default).o.key, .int .i64 (L.getD r default).o.len, .int .i64 (L.getD r default).o.ep, (L.getD r default).vs] 62)) (cz.rs.below (belR _ _))
      have IN := cz.in_put
      generalize L.getD r default = c at cz hsr CT HU HN HK PK IN
      obtain ⟨⟨ky, ln, ep, st⟩, vs⟩ := c
      obtain ⟨a2, c2, e⟩ := cz.rs.form
      simp only at e hsr CT HU HN HK
      subst e
      have z0 : wr.cell? ⟨b, off + r * 4, none⟩ = some (.string ⟨ky.toArray⟩) := cz.c0
      have z1 : wr.cell? ⟨b, off + r * 4 + 1, none⟩ = some (.int .i64 ln) := cz.c1
      have z2 : wr.cell? ⟨b, off + r * 4 + 2, none⟩ = some (.int .i64 ep) := cz.c2
      have z3 : wr.cell? ⟨b, off + r * 4 + 3, none⟩ = some (.slice a2 st.length c2) := cz.c3
      clear cz hcn
      obtain ⟨w1, hw1⟩ : ∃ w1, w1 = wr.alloc (.cells #[.string ⟨ky.toArray⟩, .int .i64 ln, .int .i64 ep, .slice a2 st.length c2] 62) := ⟨_, rfl⟩
      have PK1 : Calls Try.prog 38 #[.agg #[.string ⟨ky.toArray⟩, .int .i64 ln, .int .i64 ep, .slice a2 st.length c2]] w1 (fun e w' => e = .returned (.agg #[.int .i64 1, .string ⟨ky.toArray⟩, .int .i64 ln, .slice a2 st.length c2]) ∧ Below w1.heap.size w1 w') := by rw [hw1]; exact PK
      have B1 : Below wr.heap.size wr w1 := by rw [hw1]; exact belR _ _
      have y2 : w1.cell? ⟨wr.heap.size, 2, none⟩ = some (.int .i64 ep) := by rw [hw1, World.cell?_alloc_new]; rfl
      have y0 : w1.cell? ⟨wr.heap.size, 0, none⟩ = some (.string ⟨ky.toArray⟩) := by rw [hw1, World.cell?_alloc_new]; rfl
      have y3 : w1.cell? ⟨wr.heap.size, 3, none⟩ = some (.slice a2 st.length c2) := by rw [hw1, World.cell?_alloc_new]; rfl
      have s1 : wr.heap.size < w1.heap.size := by rw [hw1]; show wr.heap.size < (wr.heap.push _).size; rw [Array.size_push]; exact Nat.lt_succ_self _
      clear PK
      go_wp2_with fail
      rw [← hw1]
      clear hw1
      refine PK1.mono ?_
      rintro _ w2 ⟨rfl, B2⟩
      clear PK1
      go_wp2_with fail
      have KC := chk16_any ((IN.below B1).below B2) rfl
      refine KC.mono ?_
      rintro _ w3 ⟨rfl, B3⟩
      have B13 : Below w1.heap.size w1 w3 := B2.step16 B3 B2.size
      have x0 : w3.cell? ⟨wr.heap.size, 0, none⟩ = some (.string ⟨ky.toArray⟩) := (B13.cell (p := ⟨wr.heap.size, 0, none⟩) s1).trans y0
      have x2 : w3.cell? ⟨wr.heap.size, 2, none⟩ = some (.int .i64 ep) := (B13.cell (p := ⟨wr.heap.size, 2, none⟩) s1).trans y2
      have x3 : w3.cell? ⟨wr.heap.size, 3, none⟩ = some (.slice a2 st.length c2) := (B13.cell (p := ⟨wr.heap.size, 3, none⟩) s1).trans y3
      have Br3 : Below wr.heap.size wr w3 := B1.step16 B13 B1.size
      have BF : Hid (Below w.heap.size w w3) := hB.out.step16 Br3 hB.out.size
      have PV3 : Hid (0 < r → ∃ k1 : List UInt8, k1 = (L.getD (r - 1) default).o.key ∧ w3.cell? ⟨b, off + (r - 1) * 4, none⟩ = some (.string ⟨k1.toArray⟩)) := fun q => by
        obtain ⟨k1, e1, c1⟩ := PV.out q
        exact ⟨k1, e1, (Br3.cell (p := ⟨b, off + (r - 1) * 4, none⟩) hb).trans c1⟩
      clear KC IN z0 z1 z2 z3 y0 y2 y3 B1 B2 B3 B13 Br3 PV hB s1
      by_cases hok : OkR (putR ⟨ky, ln, ep, st⟩)
      rotate_left
      · rw [show chR (putR ⟨ky, ln, ep, st⟩) = 1 from if_neg hok]
        have N : Hid (¬ MayL (oL L)) := HN.out fun q => hok q.1
        clear HN HK HU hok PV3 x0 x2 x3
        go_wp2
        go_ret
        exact Says16.no N.out rfl BF.out
      rw [show chR (putR ⟨ky, ln, ep, st⟩) = 0 from if_pos hok]
      go_wp2_with fail
      by_cases hep : OkN ep
      rotate_left
      · refine (may16_any (decide_eq_false hep)).mono ?_
        rintro _ w4 ⟨rfl, rfl⟩
        have N : Hid (¬ MayL (oL L)) := HN.out fun q => hep q.2
        clear HN HK HU hok PV3 x0 x2 x3
        go_wp2
        go_ret
        exact Says16.no N.out rfl BF.out
      refine (may16_any (decide_eq_true hep)).mono ?_
      rintro _ w4 ⟨rfl, rfl⟩
      have HU2 : Hid ((0 < r → upK (L.getD (r - 1) default).o.key ky = true) → Up16 L (r + 1)) := HU.out ⟨hok, hep⟩
      clear HU HN hok hep x2
      have CE : Hid (((cntO ((oL L).take r) : Nat) : Int) + (st.length : Int) = ((cntO ((oL L).take (r + 1)) : Nat) : Int)) := by show _ = _; omega
      have CB : Hid (cntO ((oL L).take (r + 1)) ≤ (r + 1) * 1000000) := by show _ ≤ _; omega
      have CW : IntKind.i64.wrap (((cntO ((oL L).take r) : Nat) : Int) + (st.length : Int)) = ((cntO ((oL L).take r) : Nat) : Int) + (st.length : Int) := by rw [IntKind.wrap_i64]; omega
      clear CT CN
      generalize cntO ((oL L).take r) = n0 at CE CW
      rcases r with _ | s
      · have HU3 : Hid (Up16 L (0 + 1)) := HU2.out fun q => absurd q (Nat.lt_irrefl _)
        clear HK HU2 hup PV3 x0
        go_wp2_with fail
        go_quiet (fail)
        have x3' : (w4.drewN nq).cell? ⟨wr.heap.size, 3, none⟩ = some (.slice a2 st.length c2) := x3
        have BF' : Hid (Below w.heap.size w (w4.drewN nq)) := BF.out.drewN nq
        clear x3 BF
        go_wp2
        go_roundw
        case rel => exact ⟨0 + 1, by omega, by first | rfl | go_num, by rw [← CE.out], BF', HU3, CB⟩
        case measure => simp [intOf]; omega
      · obtain ⟨k1, e1, c1⟩ := PV3.out (Nat.succ_pos _)
        rw [← e1] at HK HU2
        rw [Nat.add_sub_cancel] at c1
        have R0 : ((s : Nat) : Int) + 1 > 0 := by omega
        have R2 : (s : Int) < (L.length : Int) := by omega
        clear e1 hup PV3
        go_wp2_with fail
        go_quiet (fail)
        have x3' : (w4.drewN nq).cell? ⟨wr.heap.size, 3, none⟩ = some (.slice a2 st.length c2) := x3
        have BF' : Hid (Below w.heap.size w (w4.drewN nq)) := BF.out.drewN nq
        clear x3 BF x0 c1
        rw [lessK]
        by_cases hu : upK k1 ky = true
        · have HU3 : Hid (Up16 L (s + 1 + 1)) := HU2.out fun _ => hu
          rw [hu]
          clear HK HU2 hu
          go_wp2
          go_roundw
          case rel => exact ⟨s + 1 + 1, by omega, by first | rfl | go_num, by rw [← CE.out], BF', HU3, CB⟩
          case measure => simp [intOf]; omega
        · have hu' : upK k1 ky = false := by simpa using hu
          have N : Hid (¬ MayL (oL L)) := HK.out (Nat.succ_pos _) hu'
          rw [hu']
          clear HK HU2 hu hu'
          go_wp2
          go_ret
          exact Says16.no N.out rfl BF'.out
    · obtain rfl : r = L.length := by omega
      have hge : ¬ (L.length : Int) < (L.length : Int) := by omega
      have EC : cntO ((oL L).take L.length) = cntO (oL L) := by rw [← oL_length, List.take_length]
      rw [EC]
      have YN : Hid (MayL (oL L) ↔ cntO (oL L) ≤ 256) := ⟨fun q => q.2.2, fun q => may_up.2 ⟨by omega, hup.out, q⟩⟩
      have BF := hB.out
      clear EC hup hcn h hs hB
      generalize cntO (oL L) = n0 at YN
      by_cases hn : (n0 : Int) ≤ 256
      · have Y : Hid (MayL (oL L)) := YN.out.2 (by omega)
        clear YN
        go_wp2
        go_ret
        exact Says16.yes Y.out rfl BF
      · have N : Hid (¬ MayL (oL L)) := fun q => hn (by have := YN.out.1 q; omega)
        clear YN
        go_wp2
        go_ret
        exact Says16.no N.out rfl BF
end Go.Proofs.Ythmoiffkgcnjmaa.Gf

namespace Go.Proofs.Ythmoiffkgcnjmaa.Gf
set_option linter.unusedVariables false
set_option linter.unusedSimpArgs false
open Go.RowKit
theorem size_u816 (w : World) : (sizeOf 5).run Try.prog w = .ok 1 w := by
  obtain ⟨i0, hi, hz0, hz1, hz2⟩ := info_parts info_u8
  simp [sizeOf, typeInfo, hi, hz1, go_sem]
theorem elem_bytes16 : Try.prog.elem 26 = 5 := by kernel_rfl
theorem und_bytes16 : Try.prog.underlying 26 = some (.slice (Try.prog.elem 26)) := by kernel_rfl
theorem rd_cap {w : World} {a : Option Addr} {n c : Nat} {p : List UInt8} (h : Rd w (.slice a n c) p) : n = p.length ∧ n ≤ c := by
  rcases h with ⟨ao, cap, rfl, e, _, _⟩ | ⟨b, off, cap, h0, e, h1, h2, h3, h4⟩
  · simp at e
    obtain ⟨_, rfl, rfl⟩ := e
    exact ⟨rfl, Nat.zero_le _⟩
  · simp at e
    obtain ⟨_, rfl, rfl⟩ := e
    exact ⟨rfl, h1⟩
theorem Rd.first16 {w : World} {a : Option Addr} {n c k : Nat} {p : List UInt8} (h : Rd w (.slice a n c) p) (hk : k ≤ n) : Rd w (.slice a k c) (p.take k) := by
  rcases h with ⟨ao, cap, rfl, e, h1, h2⟩ | ⟨b, off, cap, h0, e, h1, h2, h3, h4⟩
  · simp at e
    obtain ⟨rfl, rfl, rfl⟩ := e
    obtain rfl : k = 0 := by omega
    exact Or.inl ⟨a, c, rfl, rfl, h1, h2⟩
  · simp at e
    obtain ⟨rfl, rfl, rfl⟩ := e
    by_cases hk0 : k = 0
    · subst hk0
      exact Or.inl ⟨_, c, rfl, rfl, h2, fun q => by cases q⟩
    · have hl : (p.take k).length = k := by rw [List.length_take]; omega
      refine Or.inr ⟨b, off, c, fun q => by rw [q] at hl; simp at hl; omega, by rw [hl], by rw [hl]; omega, h2, h3, fun i hi => ?_⟩
      rw [hl] at hi
      rw [h4 i (by omega)]
      have : co (p.take k) i = co p i := by unfold co; rw [List.getElem?_take_of_lt hi]
      rw [this]
theorem Rd.rest16 {w : World} {a : Option Addr} {n c k : Nat} {p : List UInt8} (h : Rd w (.slice a n c) p) (hk : k ≤ n) : Rd w (.slice (if c = k then a else a.map (·.add k)) (n - k) (c - k)) (p.drop k) := by
  rcases h with ⟨ao, cap, rfl, e, h1, h2⟩ | ⟨b, off, cap, h0, e, h1, h2, h3, h4⟩
  · simp at e
    obtain ⟨rfl, rfl, rfl⟩ := e
    obtain rfl : k = 0 := by omega
    refine Or.inl ⟨_, c, rfl, rfl, h1, fun q => ?_⟩
    split at q
    · exact h2 q
    · cases a with
      | none => exact h2 rfl
      | some x => cases q
  · simp at e
    obtain ⟨rfl, rfl, rfl⟩ := e
    by_cases hk0 : k = p.length
    · subst hk0
      refine Or.inl ⟨_, c - p.length, by simp, by rw [Nat.sub_self], by omega, fun q => ?_⟩
      split at q <;> cases q
    · have hl : (p.drop k).length = p.length - k := by rw [List.length_drop]
      refine Or.inr ⟨b, off + k, c - k, fun q => by rw [q] at hl; simp at hl; omega, ?_, by rw [hl]; omega, by omega, h3, fun i hi => ?_⟩
      · rw [if_neg (by omega), hl]
        show Value.slice (some ((⟨b, off, none⟩ : Addr).add k)) _ _ = _
        rw [add_at]
      · rw [hl] at hi
        rw [Nat.add_assoc, h4 (k + i) (by omega)]
        have : co (p.drop k) i = co p (k + i) := by unfold co; rw [List.getElem?_drop]
        rw [this]
theorem cut_hi16 (w : World) (a : Option Addr) {n c k : Nat} (h : k ≤ c) : (Instr.slice 26 (.slice a n c) none (some (.int .i64 (k : Int))) none).run Try.prog w = .ok (.slice a k c) w := by
  have e := run_slice_h (P := Try.prog) w 26 a n c und_bytes16 .i64 (k : Int) (by omega) (by omega)
  rw [e, elem_bytes16, size_u816]
  simp [sliced]
  intro _
  cases a with
  | none => rfl
  | some x => obtain ⟨b, o, s⟩ := x; cases s <;> simp [Addr.add]
theorem cut_lo16 (w : World) (a : Option Addr) {n c k : Nat} (h : k ≤ n) : (Instr.slice 26 (.slice a n c) (some (.int .i64 (k : Int))) none none).run Try.prog w = .ok (.slice (if c = k then a else a.map (·.add k)) (n - k) (c - k)) w := by
  have e := run_slice_l (P := Try.prog) w 26 a n c und_bytes16 .i64 (k : Int) (by omega) (by omega)
  rw [e, elem_bytes16, size_u816]
  simp [sliced]
theorem cut_hm16 (w : World) (a : Option Addr) {n c k : Nat} (h : k ≤ c) : (Instr.slice 26 (.slice a n c) none (some (.int .i64 (k : Int))) (some (.int .i64 (k : Int)))).run Try.prog w = .ok (.slice a k k) w := by
  have e := run_slice_hm (P := Try.prog) w 26 a n c und_bytes16 .i64 .i64 (k : Int) (k : Int) (by omega) (by omega) (by omega)
  rw [e, elem_bytes16, size_u816]
  simp [sliced]
  intro _
  cases a with
  | none => rfl
  | some x => obtain ⟨b, o, s⟩ := x; cases s <;> simp [Addr.add]
end Go.Proofs.Ythmoiffkgcnjmaa.Gf
