/- TEXTS JOINED: ReCJ, ReCD, ReInt, ReStN. -/
import Derived.Test.YthmoiffkgcnjmaaPome8
namespace Go.Proofs.Ythmoiffkgcnjmaa.Gf
set_option linter.unusedVariables false
set_option linter.unusedSimpArgs false
open Go.RowKit
set_option maxRecDepth 100000 in
set_option maxHeartbeats 4000000 in
theorem snap16_any {w : World} {v : Value} {L : List ObV} (h : RdO w v L) (hs : ∀ i, i < L.length → (L.getD i default).o.st.length ≤ 1000000) : Calls Try.prog 21 #[v] w (Snaps16 w L) := by
  have K0 := mbt16_any h hs
  obtain ⟨a, cp, rfl⟩ := h.form
  go_enter Try.func21, Try.ntmps21
  go_wp2_with fail
  refine K0.mono ?_
  rintro _ w2 ⟨x, rfl, hx, B2⟩
  clear K0
  have HX : Hid (x = true ↔ MayL (oL L)) := hx
  clear hx
  cases x with
  | false =>
    have N : Hid (¬ MayL (oL L)) := fun q => by have := HX.out.2 q; cases this
    clear HX h hs
    go_wp2
    exact bodyPost_ret (v := .tuple #[.slice none 0 0, .int .i64 1]) (by simp [results, Try.results21, go_sem]) rfl (Or.inr ⟨N.out, rfl, B2⟩)
  | true =>
    have Y : Hid (MayL (oL L)) := HX.out.1 rfl
    clear HX
    have l64 : L.length ≤ 64 := by have := Y.out.1; rwa [oL_length] at this
    have oN : OwnP w2 w2.heap.size 5 (.slice none 0 0) [] := World.ownsRow_nil w2 w2.heap.size 5 1
    have K1 := num16_any (n := L.length) (k := 2) (z := 2) oN (Nat.le_refl _) (by omega) (by show 0 ≤ _; omega) rfl rfl
    go_wp2_with fail
    refine K1.mono ?_
    rintro _ w3 ⟨v3, rfl, o3, G3⟩
    clear K1
    rw [List.nil_append, nb_two] at o3
    have B3 : Below w2.heap.size w2 w3 := G3.below (Below.refl _ _) (Nat.le_refl _) oN
    clear G3 oN
    obtain ⟨a3, c3, e3⟩ := owns_form o3
    subst e3
    have LB : Hid (∀ r, (obsB ((oL L).take r)).length ≤ 6000) := fun r => obs_take Y.out r
    go_wp2_with fail
    go_loopw [4, 15] (fun ov i wr => ∃ r : Nat, r ≤ L.length ∧ i = .int .i64 (r : Int) ∧ OwnP wr w2.heap.size 5 ov (tw L.length ++ obsB ((oL L).take r)) ∧ Hid (Below w2.heap.size w2 wr)) (fun _ i _ => L.length - (intOf i).toNat)
    case atStart => exact ⟨0, Nat.zero_le _, rfl, ownAs o3 (by rw [List.take_zero, show obsB [] = [] from rfl, List.append_nil]), B3⟩
    case round =>
      clear o3 B3
      obtain ⟨r, hr, rfl, hO, hB⟩ := hrel
      obtain ⟨Q, hQ⟩ : ∃ Q, Hid (Q = tw L.length ++ obsB ((oL L).take r)) := ⟨_, rfl⟩
      have hQl : Q.length ≤ 6002 := by rw [hQ.out, List.length_append, tw_length]; have := LB.out r; omega
      rw [← hQ.out] at hO
      obtain ⟨oa, oc, rfl⟩ := owns_form hO
      have BW := B2.step16 hB.out B2.size
      by_cases hlt : r < L.length
      · have hlt' : (r : Int) < (L.length : Int) := by omega
        obtain ⟨b, off, rfl, hb, cz⟩ := (h.below BW).at hlt
        obtain ⟨_, _, ea, _, cw⟩ := h.at hlt
        have rsW : Hid (∀ W, Below w.heap.size w W → RdI W (L.getD r default).vs (L.getD r default).o.st) := fun W q => cw.rs.below q
        have ok : Hid (OkO (L.getD r default).o) := ((may_up.1 Y.out).2.1 r hlt).1
        have HQ2 : Hid (Q ++ obB (L.getD r default).o = tw L.length ++ obsB ((oL L).take (r + 1))) := by
          show _ = _
          rw [hQ.out, obs_step hlt, List.append_assoc]
        clear ea cw
        generalize L.getD r default = c at cz rsW ok HQ2
        obtain ⟨⟨ky, ln, ep, st⟩, vs⟩ := c
        obtain ⟨a2, c2, e⟩ := cz.rs.form
        simp only at e ok HQ2 rsW
        subst e
        have z0 : wr.cell? ⟨b, off + r * 4, none⟩ = some (.string ⟨ky.toArray⟩) := cz.c0
        have z1 : wr.cell? ⟨b, off + r * 4 + 1, none⟩ = some (.int .i64 ln) := cz.c1
        have z2 : wr.cell? ⟨b, off + r * 4 + 2, none⟩ = some (.int .i64 ep) := cz.c2
        have z3 : wr.cell? ⟨b, off + r * 4 + 3, none⟩ = some (.slice a2 st.length c2) := cz.c3
        obtain ⟨w1, hw1⟩ : ∃ w1, w1 = wr.alloc (.cells #[.string ⟨ky.toArray⟩, .int .i64 ln, .int .i64 ep, .slice a2 st.length c2] 62) := ⟨_, rfl⟩
        have B1 : Below wr.heap.size wr w1 := by rw [hw1]; exact belR _ _
        have s1 : wr.heap.size < w1.heap.size := by rw [hw1]; show wr.heap.size < (wr.heap.push _).size; rw [Array.size_push]; exact Nat.lt_succ_self _
        have y : ∀ j, w1.cell? ⟨wr.heap.size, j, none⟩ = #[Value.string ⟨ky.toArray⟩, .int .i64 ln, .int .i64 ep, .slice a2 st.length c2][j]? := fun j => by rw [hw1, World.cell?_alloc_new]
        have o1 : OwnP w1 w2.heap.size 5 (.slice oa Q.length oc) Q := owns_later hO B1
        have hne : (Value.slice oa Q.length oc).ownBlock ≠ some wr.heap.size := own_ne hO (Nat.le_refl _)
        have C1 : Below w2.heap.size w2 w1 := hB.out.step16 B1 hB.out.size
        have hep := ok.out.2
        have K1 := num16_any (n := ep.toNat) (k := 4) (z := 4) o1 C1.size (by omega) (by omega) (Int.toNat_of_nonneg hep.1).symm rfl
        clear cz BW hO
        have y2 : w1.cell? ⟨wr.heap.size, 2, none⟩ = some (.int .i64 ep) := y 2
        go_wp2_with fail
        rw [← hw1]
        clear hw1 y2 z0 z1 z2 z3
        refine K1.mono ?_
        rintro _ w4 ⟨v4, rfl, o4, G4⟩
        clear K1
        rw [nb_four] at o4
        obtain ⟨Q4, hQ4⟩ : ∃ Q4, Hid (Q4 = Q ++ fo ep.toNat) := ⟨_, rfl⟩
        rw [← hQ4.out] at o4
        have hQ4l : Q4.length ≤ 6010 := by rw [hQ4.out, List.length_append, fo_length]; omega
        have C4 : Below w2.heap.size w2 w4 := G4.below C1 C1.size o1
        have y' : ∀ j, w4.cell? ⟨wr.heap.size, j, none⟩ = #[Value.string ⟨ky.toArray⟩, .int .i64 ln, .int .i64 ep, .slice a2 st.length c2][j]? := fun j => (G4.cell (p := ⟨wr.heap.size, j, none⟩) s1 hne).trans (y j)
        have x0 : w4.cell? ⟨wr.heap.size, 0, none⟩ = some (.string ⟨ky.toArray⟩) := y' 0
        have x1 : w4.cell? ⟨wr.heap.size, 1, none⟩ = some (.int .i64 ln) := y' 1
        have x2 : w4.cell? ⟨wr.heap.size, 2, none⟩ = some (.int .i64 ep) := y' 2
        have x3 : w4.cell? ⟨wr.heap.size, 3, none⟩ = some (.slice a2 st.length c2) := y' 3
        have BW4 : Below w.heap.size w w4 := B2.step16 C4 B2.size
        have K2 : Calls Try.prog 38 #[.agg #[.string ⟨ky.toArray⟩, .int .i64 ln, .int .i64 ep, .slice a2 st.length c2]] w4 (fun e w' => e = .returned (aggR ⟨putR ⟨ky, ln, ep, st⟩, .slice a2 st.length c2⟩) ∧ Below w4.heap.size w4 w') := put16_any (c := ⟨⟨ky, ln, ep, st⟩, .slice a2 st.length c2⟩) (rsW.out w4 BW4)
        clear G4 o1 C1 y y' hne s1 B1
        obtain ⟨a4, c4, e4⟩ := owns_form o4
        subst e4
        go_wp2_with fail
        refine K2.mono ?_
        rintro _ w5 ⟨rfl, B5⟩
        clear K2 x0 x1 x2 x3
        have o5 : OwnP w5 w2.heap.size 5 (.slice a4 Q4.length c4) Q4 := owns_later o4 B5
        have C5 : Below w2.heap.size w2 w5 := C4.step16 B5 C4.size
        have K3 := wrec16_any (c := ⟨putR ⟨ky, ln, ep, st⟩, .slice a2 st.length c2⟩) o5 C5.size ok.out.1 (fun W V g => rsW.out W (B2.step16 (g.below C5 C5.size o5) B2.size)) (by omega)
        clear C4 B5 BW4 o4
        go_wp2_with fail
        refine K3.mono ?_
        rintro _ w6 ⟨v6, rfl, o6, G6⟩
        have C6 : Hid (Below w2.heap.size w2 w6) := G6.below C5 C5.size o5
        have o7 := ownAs o6 (show _ = tw L.length ++ obsB ((oL L).take (r + 1)) by rw [hQ4.out, List.append_assoc]; exact HQ2.out)
        clear K3 o5 o6 G6 C5
        go_wp2
        go_roundw
        case rel => exact ⟨r + 1, by omega, by go_num, o7, C6⟩
        case measure => simp [intOf]; omega
      · obtain rfl : r = L.length := by omega
        have hge : ¬ (L.length : Int) < (L.length : Int) := by omega
        have eQ : Hid (Q = snB (oL L)) := by
          show _ = _
          rw [hQ.out]
          unfold snB
          rw [oL_length, ← oL_length L, List.take_length]
        have lQ : Q.length ≤ 8192 := by omega
        have K4 := cut16_any (Rd.owned hO) lQ
        clear h hs hO
        go_wp2_with fail
        refine K4.mono ?_
        rintro _ w6 ⟨u, rfl, RS, B6⟩
        clear K4
        have FIN : Hid (Snaps16 w L (.returned (.tuple #[u, .int .i64 0])) w6) := Or.inl ⟨Y.out, u, rfl, by rw [eQ.out] at RS; exact RS, BW.step16 B6 BW.size⟩
        obtain ⟨ua, uc, rfl⟩ := RS.form
        clear RS eQ
        go_wp2
        exact bodyPost_ret (v := .tuple #[.slice ua _ uc, .int .i64 0]) (by simp [results, Try.results21, go_sem]) rfl FIN.out
end Go.Proofs.Ythmoiffkgcnjmaa.Gf

namespace Go.Proofs.Ythmoiffkgcnjmaa.Gf
set_option linter.unusedVariables false
set_option linter.unusedSimpArgs false
open Go.RowKit
/-- a reading that gave up -/
def pz16 : List PanicEntry := [{ v := .iface 28 (.int .i64 160), recovered := false }]
set_option maxRecDepth 100000 in
theorem ask16_yes {w : World} {x : Bool} (hx : x = true) : Calls Try.prog 48 #[.bool x] w fun e w' => e = .returned (.tuple #[]) ∧ w' = w := by
  subst hx
  go_enter Try.func48, Try.ntmps48
  go_wp2
  go_end0
  exact ⟨rfl, rfl⟩
set_option maxRecDepth 100000 in
theorem ask16_no {w : World} {x : Bool} (hx : x = false) : Calls Try.prog 48 #[.bool x] w fun e w' => e = .panicked pz16 ∧ w' = w := by
  subst hx
  go_enter Try.func48, Try.ntmps48
  go_wp2
  exact ⟨rfl, rfl, rfl⟩
/-- a reader at block rb: what is left to read lies in memory that w0 has -/
structure RdrAt (w0 : World) (rb : Nat) (w : World) (p : List UInt8) : Prop where
  at0 : ∃ v, w.cell? ⟨rb, 0, none⟩ = some v ∧ Rd w0 v p
  fz : w.frozen? ⟨rb, 0, none⟩ = false
  bl : Below w0.heap.size w0 w
  lo : w0.heap.size ≤ rb
theorem RdrAt.only {w0 : World} {rb g : Nat} {w w' : World} {p : List UInt8} (h : RdrAt w0 rb w p) (o : Only g w w') (hg : w0.heap.size ≤ g) (hne : g ≠ rb) : RdrAt w0 rb w' p := by
  obtain ⟨v, c, R⟩ := h.at0
  exact ⟨⟨v, (o.cell (p := ⟨rb, 0, none⟩) (fun e => hne e.symm)).trans c, R⟩, (o.frozen (p := ⟨rb, 0, none⟩) (fun e => hne e.symm)).trans h.fz, h.bl.trans (o.below hg), h.lo⟩
theorem RdrAt.lt {w0 : World} {rb : Nat} {w : World} {p : List UInt8} (h : RdrAt w0 rb w p) : rb < w.heap.size := by
  obtain ⟨v, c, R⟩ := h.at0
  exact World.block_lt_of_cell? _ _ c
theorem RdrAt.below {w0 : World} {rb : Nat} {w w' : World} {p : List UInt8} (h : RdrAt w0 rb w p) (o : Below w.heap.size w w') : RdrAt w0 rb w' p := by
  obtain ⟨v, c, R⟩ := h.at0
  have l := h.lt
  exact ⟨⟨v, (o.cell (p := ⟨rb, 0, none⟩) l).trans c, R⟩, (o.frozen (p := ⟨rb, 0, none⟩) l).trans h.fz, h.bl.trans (o.mono h.bl.size), h.lo⟩
/-- bytes that are taken, and the reader behind them -/
def Takes16 (w0 : World) (rb : Nat) (w : World) (q r : List UInt8) (e : Ending) (w' : World) : Prop := ∃ u, e = .returned u ∧ Rd w0 u q ∧ RdrAt w0 rb w' r ∧ Only rb w w'
set_option maxRecDepth 100000 in
set_option maxHeartbeats 1000000 in
theorem take16_yes {w0 w : World} {rb : Nat} {p : List UInt8} (h : RdrAt w0 rb w p) {n : Nat} (hn : n ≤ p.length) {z : Int} (hz : z = (n : Int)) : Calls Try.prog 50 #[.pointer (some ⟨rb, 0, none⟩), .int .i64 z] w (Takes16 w0 rb w (p.take n) (p.drop n)) := by
  subst hz
  obtain ⟨v, c, R⟩ := h.at0
  obtain ⟨a, cp, rfl⟩ := R.form
  have hn' : (n : Int) ≤ (p.length : Int) := by omega
  have E1 := fun W => cut_hi16 W a (n := p.length) (c := cp) (k := n) (Nat.le_trans hn (rd_cap R).2)
  have E2 := fun W => cut_lo16 W a (n := p.length) (c := cp) (k := n) hn
  obtain ⟨a2, ha2⟩ : ∃ a2, a2 = (if cp = n then a else a.map (·.add n)) := ⟨_, rfl⟩
  have R2 : Rd w0 (.slice a2 (p.length - n) (cp - n)) (p.drop n) := by rw [ha2]; exact R.rest16 hn
  rw [← ha2] at E2
  generalize p.length - n = n2 at E2 R2
  generalize cp - n = c2 at E2 R2
  have fz := h.fz
  have HF : Hid (Takes16 w0 rb w (p.take n) (p.drop n) (.returned (.slice a n cp)) (w.setCell ⟨rb, 0, none⟩ (.slice a2 n2 c2))) := by
    have O : Only rb w (w.setCell ⟨rb, 0, none⟩ (.slice a2 n2 c2)) := (Only.refl _ _).setCell _ _
    exact ⟨_, rfl, R.first16 hn, ⟨⟨_, World.cell?_setCell_same _ _ _ c, R2⟩, (World.frozen?_setCell _ _ _ _).trans h.fz, h.bl.trans (O.below h.lo), h.lo⟩, O⟩
  generalize p.length = m at c E1 E2 hn' hn
  clear ha2 R h R2
  go_enter Try.func50, Try.ntmps50
  go_wp2_with fail
  refine (ask16_yes rfl).mono ?_
  rintro _ _ ⟨rfl, rfl⟩
  go_wp2
  go_ret
  exact HF.out
set_option maxRecDepth 100000 in
set_option maxHeartbeats 1000000 in
theorem take16_no {w0 w : World} {rb : Nat} {p : List UInt8} (h : RdrAt w0 rb w p) {n : Nat} (hn : p.length < n) {z : Int} (hz : z = (n : Int)) : Calls Try.prog 50 #[.pointer (some ⟨rb, 0, none⟩), .int .i64 z] w fun e w' => e = .panicked pz16 ∧ w' = w := by
  subst hz
  obtain ⟨v, c, R⟩ := h.at0
  obtain ⟨a, cp, rfl⟩ := R.form
  have hn' : ¬ (n : Int) ≤ (p.length : Int) := by omega
  generalize p.length = m at c hn' hn
  clear R h
  go_enter Try.func50, Try.ntmps50
  go_wp2_with fail
  refine (ask16_no rfl).mono ?_
  rintro _ _ ⟨rfl, rfl⟩
  exact ⟨rfl, rfl, rfl⟩
/-- the number of bytes, the highest first -/
def nuL (l : List UInt8) : Nat := l.foldl (fun n x => n * 256 + x.toNat) 0
theorem nuL_snoc (l : List UInt8) (x : UInt8) : nuL (l ++ [x]) = nuL l * 256 + x.toNat := by
  unfold nuL
  rw [List.foldl_append]; rfl
theorem nuL_acc (l : List UInt8) (a : Nat) : l.foldl (fun n x => n * 256 + x.toNat) a < (a + 1) * 256 ^ l.length := by
  induction l generalizing a with
  | nil => show a < (a + 1) * 1; omega
  | cons x l ih =>
    have h := ih (a * 256 + x.toNat)
    have hx := x.toNat_lt
    rw [List.foldl_cons, List.length_cons, Nat.pow_succ, Nat.mul_comm (256 ^ l.length), ← Nat.mul_assoc]
    exact Nat.lt_of_lt_of_le h (Nat.mul_le_mul_right _ (by omega))
theorem nuL_lt (l : List UInt8) : nuL l < 256 ^ l.length := by
  have := nuL_acc l 0
  rw [Nat.zero_add, Nat.one_mul] at this
  exact this
theorem or16 (a : Nat) (x : UInt8) (ha : a < 16777216) : bits .or .i64 ((a : Int) * 256) ((x.toNat : Nat) : Int) = ((a * 256 + x.toNat : Nat) : Int) := by
  have hx := x.toNat_lt
  have e : (a * 256) ||| x.toNat = a * 256 + x.toNat := by
    have := Nat.two_pow_add_eq_or_of_lt (i := 8) (b := x.toNat) hx a
    rw [Nat.mul_comm a 256]
    exact this.symm
  show IntKind.i64.wrap ((BitVec.ofInt 64 ((a : Int) * 256) ||| BitVec.ofInt 64 ((x.toNat : Nat) : Int)).toNat : Int) = _
  rw [show ((a : Int) * 256) = ((a * 256 : Nat) : Int) by omega, BitVec.toNat_or, ofInt_u64 (a * 256) (by omega), ofInt_u64 x.toNat (by omega), e, IntKind.wrap_i64]
  omega
set_option maxRecDepth 100000 in
set_option maxHeartbeats 1000000 in
theorem rnum16_yes {w0 w : World} {rb : Nat} {p : List UInt8} (h : RdrAt w0 rb w p) {k : Nat} (hk : k ≤ 4) (hn : k ≤ p.length) {z : Int} (hz : z = (k : Int)) {N : Int} (hN : ((nuL (p.take k) : Nat) : Int) = N) : Calls Try.prog 49 #[.pointer (some ⟨rb, 0, none⟩), .int .i64 z] w fun e w' => e = .returned (.int .i64 N) ∧ RdrAt w0 rb w' (p.drop k) ∧ Only rb w w' := by
  have K := take16_yes h hn rfl
  subst hz
  go_enter Try.func49, Try.ntmps49
  go_wp2_with fail
  refine K.mono ?_
  rintro _ w1 ⟨u, rfl, R, H1, O1⟩
  clear K h
  have hl : (p.take k).length = k := by rw [List.length_take]; omega
  have HN : Hid (((nuL (p.take k) : Nat) : Int) = N) := hN
  have HF : Hid (RdrAt w0 rb w1 (p.drop k) ∧ Only rb w w1) := ⟨H1, O1⟩
  have R1 := R.below H1.bl
  clear hN H1 O1 R
  generalize p.take k = q at hl R1 HN
  obtain ⟨a, cp, rfl⟩ := R1.form
  go_wp2
  go_loopw [5, 12] (fun n i wr => ∃ r : Nat, r ≤ q.length ∧ n = .int .i64 ((nuL (q.take r) : Nat) : Int) ∧ i = .int .i64 (r : Int) ∧ wr = w1) (fun _ i _ => q.length - (intOf i).toNat)
  case atStart => exact ⟨0, Nat.zero_le _, rfl, rfl, rfl⟩
  case round =>
    obtain ⟨r, hr, rfl, rfl, rfl⟩ := hrel
    by_cases hlt : r < q.length
    · have hlt' : (r : Int) < (q.length : Int) := by omega
      obtain ⟨b, off, rfl, _, cz⟩ := R1.byte hlt
      have hs : Hid (nuL (q.take (r + 1)) = nuL (q.take r) * 256 + (co q r).toNat) := by
        have e : co q r = q[r] := by unfold co; simp [List.getElem?_eq_getElem hlt]
        show _ = _
        rw [List.take_succ_eq_append_getElem hlt, nuL_snoc, e]
      have hb : nuL (q.take r) < 16777216 := by
        have h1 := nuL_lt (q.take r)
        rw [List.length_take, Nat.min_eq_left hr] at h1
        exact Nat.lt_of_lt_of_le h1 (Nat.le_trans (Nat.pow_le_pow_right (by omega) (show r ≤ 3 by omega)) (by decide))
      generalize co q r = x at cz hs
      have E := or16 _ x hb
      generalize nuL (q.take r) = n at hs hb E
      have ew : wrap64 ((x.toNat : Nat) : Int) = ((x.toNat : Nat) : Int) := by have := x.toNat_lt; unfold wrap64; omega
      generalize hm : n * 256 + x.toNat = m at E hs
      have HS : Hid (nuL (q.take (r + 1)) = m) := hs.out
      clear hs hm
      go_wp2
      go_roundw
      case rel => exact ⟨r + 1, by omega, by rw [HS.out, ← E], by go_num, by first | rfl | trivial⟩
      case measure => simp [intOf]; omega
    · obtain rfl : r = q.length := by omega
      have hge : ¬ (q.length : Int) < (q.length : Int) := by omega
      rw [List.take_length]
      go_wp2
      go_ret
      exact ⟨congrArg (fun t => Ending.returned (.int .i64 t)) HN.out, HF.out.1, HF.out.2⟩
set_option maxRecDepth 100000 in
set_option maxHeartbeats 1000000 in
theorem rnum16_no {w0 w : World} {rb : Nat} {p : List UInt8} (h : RdrAt w0 rb w p) {k : Nat} (hn : p.length < k) {z : Int} (hz : z = (k : Int)) : Calls Try.prog 49 #[.pointer (some ⟨rb, 0, none⟩), .int .i64 z] w fun e w' => e = .panicked pz16 ∧ w' = w := by
  have K := take16_no h hn rfl
  subst hz
  go_enter Try.func49, Try.ntmps49
  go_wp2_with fail
  refine K.mono ?_
  rintro _ _ ⟨rfl, rfl⟩
  exact ⟨rfl, rfl, rfl⟩
end Go.Proofs.Ythmoiffkgcnjmaa.Gf

namespace Go.Proofs.Ythmoiffkgcnjmaa.Gf
set_option linter.unusedVariables false
set_option linter.unusedSimpArgs false
open Go.RowKit
def vz (z : Int) : Value := .int .i64 z
def OwnZ (w : World) (base e : Nat) (v : Value) (zs : List Int) : Prop := w.ownsRow base e 1 v zs.length (zs.map vz)
theorem OwnZ.cell {w : World} {base e : Nat} {a : Option Addr} {n c : Nat} {zs : List Int} (h : OwnZ w base e (.slice a n c) zs) {i : Nat} (hi : i < zs.length) : ∃ g, a = some ⟨g, 0, none⟩ ∧ g < w.heap.size ∧ base ≤ g ∧ w.cell? ⟨g, i, none⟩ = some (.int .i64 (zs.getD i 0)) := by
  have h' := h
  obtain ⟨_, ⟨e, hn⟩ | ⟨g, cap, cur, e, hg, hh, hc, hm, hs, ht⟩⟩ := h
  · omega
  · simp at e
    obtain ⟨rfl, rfl, rfl⟩ := e
    have hlt := World.ownsRow.lt h' g rfl
    refine ⟨g, rfl, hlt.2, hlt.1, ?_⟩
    rw [World.ownsRow.cellAt h' i (by omega), List.getElem?_map, List.getElem?_eq_getElem hi]
    simp [vz, List.getD, hi]
theorem OwnZ.rd {w : World} {base e : Nat} {v : Value} {zs : List Int} (h : OwnZ w base e v zs) (hl : zs.length ≤ 1000000) : RdI w v zs := by
  obtain ⟨a, c, rfl⟩ := owns_form h
  by_cases h0 : zs = []
  · subst h0; exact Or.inl ⟨a, c, rfl, rfl⟩
  · have hpos : 0 < zs.length := List.length_pos_iff.2 h0
    obtain ⟨g, rfl, hg, _, _⟩ := h.cell hpos
    refine Or.inr ⟨g, 0, c, h0, rfl, by unfold maxLen; omega, hg, fun i hi => ?_⟩
    obtain ⟨g', e, _, _, hc⟩ := h.cell hi
    simp at e
    subst e
    rw [Nat.zero_add, hc]
theorem OwnZ.nil (w : World) (base e : Nat) : OwnZ w base e (.slice none 0 0) [] := World.ownsRow_nil _ _ _ _
theorem info_int16 : (Try.prog.info? 3).map (fun i => (i.zero, i.size, i.bytes)) = some (some (.int .i64 0), 1, 8) := by kernel_rfl
theorem info_int16' : ∃ i, Try.prog.info? 3 = some i ∧ i.zero = some (.int .i64 0) ∧ i.size = 1 ∧ i.bytes = 8 := by
  have h := info_int16
  cases e : Try.prog.info? 3 with
  | none => rw [e] at h; cases h
  | some i =>
    rw [e] at h
    simp only [Option.map_some, Option.some.injEq, Prod.mk.injEq] at h
    exact ⟨i, rfl, h.1, h.2.1, h.2.2⟩
/-- 'append(s, x)' of one integer, x laid as a list of one, as a run -/
theorem run_append_z {w W : World} {base : Nat} {v : Value} {zs : List Int} {z : Int} (ty : TypeId) (hO : OwnZ w base 3 v zs) (hW : W = w.alloc (.cells #[.int .i64 z] 3)) {b : Nat} (hb : b = w.heap.size) (hl : zs.length ≤ 100000) (hbase : base ≤ w.heap.size) :
    ∃ v' w', (Builtin.append_ #[23, 23] ty #[v, .slice (some ⟨b, 0, none⟩) 1 1]).run Try.prog W = .ok v' w' ∧ OwnZ w' base 3 v' (zs ++ [z]) ∧ Gro w v w' v' := by
  subst hW hb
  obtain ⟨i, hi, hz, hs, hy⟩ := info_int16'
  obtain ⟨v', w', hrun, h2, h3, _, h5⟩ := run_append_own_at (P := Try.prog) (w.alloc (.cells #[.int .i64 z] 3)) base 23 ty 3 i (.int .i64 0) 1 8 Try.underlying23 hi hz hs hy rfl (by decide) v zs.length (zs.map vz) (World.ownsRow.alloc hO _) ⟨w.heap.size, 0, none⟩ 1 1 [vz z] rfl (by intro j y hj; rw [add_at, Nat.zero_add]; rcases j with _ | j <;> simp at hj; subst hj; simp [vz]) (by intro y hy; simp at hy; rw [hy]; rfl) (by unfold maxLen; omega) (by omega) (by simp; omega)
  refine ⟨v', w', hrun, ?_, (Gro.bel v (belR w _)).trans (Gro.of h3 h5)⟩
  unfold OwnZ
  rw [List.length_append, List.map_append]
  exact h2
theorem step_append_z {w W : World} {base : Nat} {v : Value} {zs : List Int} {z : Int} {ops : Array Oper} {o : Oper} {a : Act} {K : Act → World → Prop} {Q : Exit → Act → World → Prop} {E : Prop} (hgd : o.guard = none) (s x : Operand)
    (ho : o.op = .call { callee := .builtin .append, args := #[s, x], argTypes := #[23, 23] }) {b : Nat} (hs : a.eval s = v) (hx : a.eval x = .slice (some ⟨b, 0, none⟩) 1 1)
    (hO : OwnZ w base 3 v zs) (hW : W = w.alloc (.cells #[.int .i64 z] 3)) (hb : b = w.heap.size) (hl : zs.length ≤ 100000) (hbase : base ≤ w.heap.size)
    (h : ∀ v' w', OwnZ w' base 3 v' (zs ++ [z]) → Gro w v w' v' → K (a.put o.dst v') w') :
    if Region.wanted o (yielded ops a.tmps) = true then Oper.wp Try.prog o a W K Q else E := by
  have hw : Region.wanted o (yielded ops a.tmps) = true := by simp [Region.wanted, hgd]
  rw [if_pos hw]
  obtain ⟨v', w', hrun, h2, h3⟩ := run_append_z (z := z) o.type hO hW hb hl hbase
  unfold Oper.wp execOp
  simp only [ho, resolve, invoke, builtin, Sem.run_bind, Sem.run_pure, Result.andThen_ok, List.map_toArray, List.map_cons, List.map_nil, hs, hx, hrun]
  exact h v' w' h2 h3
theorem OwnZ.only {w w' : World} {base e g : Nat} {v : Value} {zs : List Int} (h : OwnZ w base e v zs) (o : Only g w w') (hg : g < base) : OwnZ w' base e v zs := by
  obtain ⟨h0, h | ⟨g2, cap, cur, hv, hgg, hh, r⟩⟩ := h
  · exact ⟨h0, Or.inl h⟩
  · exact ⟨h0, Or.inr ⟨g2, cap, cur, hv, hgg, by rw [o.block g2 (by omega)]; exact hh, r⟩⟩
end Go.Proofs.Ythmoiffkgcnjmaa.Gf

namespace Go.Proofs.Ythmoiffkgcnjmaa.Gf
set_option linter.unusedVariables false
set_option linter.unusedSimpArgs false
open Go.RowKit
theorem stN_succ (r : Nat) (b : List UInt8) : stN (r + 1) b = stN r b ++ [((un (b.drop (2 * r)) : Nat) : Int)] := by
  induction r generalizing b with
  | zero => rfl
  | succ r ih =>
    show ((un b : Nat) : Int) :: stN (r + 1) (b.drop 2) = ((un b : Nat) : Int) :: (stN r (b.drop 2) ++ _)
    rw [ih, List.drop_drop, show 2 + 2 * r = 2 * (r + 1) by omega]
theorem wf64 {z : Int} (h0 : -9223372036854775808 ≤ z) (h1 : z ≤ 9223372036854775807) : (Lit.int .i64 z).wf = true := by
  simp [Lit.wf, IntKind.min, IntKind.max, IntKind.signed, IntKind.bits]
  omega
theorem stN_wf (n : Nat) (b : List UInt8) : ∀ z ∈ stN n b, (Lit.int .i64 z).wf = true := by
  induction n generalizing b with
  | zero => intro z hz; cases hz
  | succ n ih =>
    intro z hz
    rcases List.mem_cons.1 hz with rfl | hz
    · have := un_lt b; exact wf64 (by omega) (by omega)
    · exact ih _ z hz
end Go.Proofs.Ythmoiffkgcnjmaa.Gf
