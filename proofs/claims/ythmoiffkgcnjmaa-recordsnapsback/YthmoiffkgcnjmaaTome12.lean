/- TEXTS JOINED: ReCM, ReAw. -/
import Derived.Test.YthmoiffkgcnjmaaTome11
namespace Go.Proofs.Ythmoiffkgcnjmaa.Gf
set_option linter.unusedVariables false
set_option linter.unusedSimpArgs false
open Go.RowKit
theorem ocl16_pan {eb : Nat} {x : Int} {w : World} (hc : w.cell? ⟨eb, 0, none⟩ = some (.int .i64 x)) (hz : w.frozen? ⟨eb, 0, none⟩ = false) :
    CallsD Try.prog 51 #[.pointer (some ⟨eb, 0, none⟩)] (.panicking pz16) w fun e u' w' => e = .returned (.tuple #[]) ∧ u' = .panicking [{ v := .iface 28 (.int .i64 160), recovered := true }] ∧ w' = w.setCell ⟨eb, 0, none⟩ (.int .i64 160) := by
  have hta : ∀ w, (Instr.typeAssert (.iface 28 (.int .i64 160)) 20 28 false).run Try.prog w = .ok (.int .i64 160) w := fun _ => by kernel_rfl
  refine callsD_of_wpS Try.func51 rfl fun c₀ cs hu => ?_
  unfold pz16 at hu
  apply wpS_seq
  apply wpS_region
  simp [wpOpsS, go_sem, recoverD, hu, Try.ntmps51, Exit.thenS]
  refine wpS_of_wp ?_
  rw [show (#[Value.pointer (some ⟨eb, 0, none⟩)] ++ ((Array.replicate 6 undef).setIfInBounds 1 (Value.iface 28 (.int .i64 160))).setIfInBounds 0 (Value.iface 28 (.int .i64 160))) = #[Value.pointer (some ⟨eb, 0, none⟩), .iface 28 (.int .i64 160), .iface 28 (.int .i64 160), undef, undef, undef, undef] from rfl]
  go_wp2
  exact ⟨rfl, _, rfl, .tuple #[], by simp [results, Try.results51, go_sem], rfl, rfl, rfl⟩
theorem ocl16_ret {eb : Nat} {w : World} :
    CallsD Try.prog 51 #[.pointer (some ⟨eb, 0, none⟩)] .returning w fun e u' w' => e = .returned (.tuple #[]) ∧ u' = .returning ∧ w' = w := by
  refine callsD_of_wpS Try.func51 rfl fun c₀ cs hu => ?_
  apply wpS_seq
  apply wpS_region
  simp [wpOpsS, go_sem, recoverD, hu, Try.ntmps51, Exit.thenS]
  refine wpS_of_wp ?_
  rw [show (#[Value.pointer (some ⟨eb, 0, none⟩)] ++ ((Array.replicate 6 undef).setIfInBounds 1 Value.nilIface).setIfInBounds 0 Value.nilIface) = #[Value.pointer (some ⟨eb, 0, none⟩), .nilIface, .nilIface, undef, undef, undef, undef] from rfl]
  go_wp2
  cases c₀
  simp_all [bodyPostS, results, Try.results51]
theorem rwo_pan {p : Prop} (h : p := by
  obtain ⟨kE, fE, B4⟩ := AF.out w4 t4
  have kZ := World.cell?_setCell_same w4 ⟨w.heap.size, 0, none⟩ (.int .i64 160) kE
  have FIN : Hid (UnW16 w p (.returned (.tuple #[.slice none 0 0, .int .i64 160])) (w4.setCell ⟨w.heap.size, 0, none⟩ (.int .i64 160))) := Or.inr ⟨nI.out, rfl, B4.setCell (Nat.le_refl _) _⟩
  refine leaves_cons (f := 51) (args := #[.pointer (some ⟨w.heap.size, 0, none⟩)]) (by simp) (by simp [go_sem]) ?_
  refine (ocl16_pan kE fE).mono ?_
  rintro e u' w'' ⟨rfl, rfl, rfl⟩
  exact ⟨.tuple #[.slice none 0 0, .int .i64 160], by simp [results, Try.results43, go_sem, kZ], FIN.out⟩) : p := h
set_option maxRecDepth 100000 in
set_option maxHeartbeats 4000000 in
theorem rwo16_any {w : World} {v : Value} {p : List UInt8} (R : Rd w v p) (hp : p.length ≤ 100000) : Calls Try.prog 43 #[v, .func (.func 45) #[] #[]] w (UnW16 w p) := by
  obtain ⟨a, cp, e⟩ := R.form
  subst e
  have hmf : ∀ (fn : Fn) (first cap : Array Value) (w : World), (Instr.makeFunc fn first cap).run Try.prog w = .ok (.func fn first cap) w := fun _ _ _ _ => rfl
  obtain ⟨w3, hw3⟩ : ∃ w3, w3 = (w.alloc (.cells #[.int .i64 0] 28)).alloc (.cells #[.slice a p.length cp] 73) := ⟨_, rfl⟩
  have s3 : w3.heap.size = w.heap.size + 2 := by rw [hw3]; simp
  have B3 : Below w.heap.size w w3 := by rw [hw3]; exact (belR _ _).trans ((belR _ _).mono (by simp))
  have cE : w3.cell? ⟨w.heap.size, 0, none⟩ = some (.int .i64 0) := by
    rw [hw3, World.cell?_alloc_lt _ _ _ (by simp), World.cell?_alloc_new]
    rfl
  have cR : w3.cell? ⟨w.heap.size + 1, 0, none⟩ = some (.slice a p.length cp) := by
    rw [hw3, show w.heap.size + 1 = (w.alloc (.cells #[.int .i64 0] 28)).heap.size by simp, World.cell?_alloc_new]
    rfl
  have fE : w3.frozen? ⟨w.heap.size, 0, none⟩ = false := by rw [hw3]; simp [go_sem]
  have fR : w3.frozen? ⟨w.heap.size + 1, 0, none⟩ = false := by rw [hw3]; simp [go_sem]
  have r3 : RdrAt w (w.heap.size + 1) w3 p := ⟨⟨_, cR, R⟩, fR, B3, by omega⟩
  have AF : Hid (∀ W, Turn (w.heap.size + 1) w3 W → W.cell? ⟨w.heap.size, 0, none⟩ = some (.int .i64 0) ∧ W.frozen? ⟨w.heap.size, 0, none⟩ = false ∧ Below w.heap.size w W) := fun W t => ⟨(t.cell (p := ⟨w.heap.size, 0, none⟩) (by show w.heap.size < _; omega) (by show w.heap.size ≠ _; omega)).trans cE, (t.frozen (p := ⟨w.heap.size, 0, none⟩) (by show w.heap.size < _; omega) (by show w.heap.size ≠ _; omega)).trans fE, B3.trans (t.below (by omega) (by omega))⟩
  have S3 : Hid (w3.heap.size = w.heap.size + 2) := s3
  have K := robs16_any r3 hp
  clear cE cR fE fR R s3
  go_enter_defers Try.func43, Try.ntmps43
  go_wp2_with fail
  rw [← hw3]
  clear hw3
  refine K.mono ?_
  rintro _ w4 (⟨L, q, lv, h2, hu, hm, rfl, hO, r4, t4⟩ | ⟨hn, rfl, t4⟩)
  rotate_left
  · have nI : Hid (∀ l, ¬ IsB p l) := fun l k => hn l [] k.1 k.2.1 k.2.2
    exact rwo_pan
  have lL : Hid (L.length ≤ 64) := by have := hm.1; rwa [oL_length] at this
  obtain ⟨la, lc, el⟩ := (hO.rd (by have := lL.out; omega)).form
  subst el
  obtain ⟨u, cu, Ru⟩ := r4.at0
  obtain ⟨ua, uc, eu⟩ := Ru.form
  subst eu
  have EQ : Hid (q.length = 0 → IsB p (oL L)) := fun e => ⟨h2, by rw [hu, List.length_eq_zero_iff.1 e], hm⟩
  have EN : Hid (q.length ≠ 0 → ∀ l, ¬ IsB p l) := fun e l k => by
    have h3 := k.2.1
    rw [hu] at h3
    simp only [Option.some.injEq, Prod.mk.injEq] at h3
    exact e (by rw [h3.2]; rfl)
  generalize q.length = m at cu EQ EN
  clear Ru r4 K r3 hu hm
  by_cases h0 : (m : Int) = 0
  rotate_left
  · have nI : Hid (∀ l, ¬ IsB p l) := EN.out (by omega)
    clear hO
    go_wp2_with fail
    refine (ask16_no (beq_eq_false_iff_ne.2 h0)).mono ?_
    rintro _ w4 ⟨rfl, rfl⟩
    exact rwo_pan
  · have yI : Hid (IsB p (oL L)) := EQ.out (by omega)
    obtain ⟨kE, fE, BW⟩ := AF.out w4 t4
    clear EQ EN t4
    go_wp2_with fail
    refine (ask16_yes rfl).mono ?_
    rintro _ w6 ⟨rfl, rfl⟩
    have OE : Only w.heap.size w6 (w6.setCell ⟨w.heap.size, 0, none⟩ (.int .i64 0)) := (Only.refl _ _).setCell _ _
    have e5 := World.cell?_setCell_same w6 ⟨w.heap.size, 0, none⟩ (.int .i64 0) kE
    have FIN : Hid (UnW16 w p (.returned (.tuple #[.slice la L.length lc, .int .i64 0])) (w6.setCell ⟨w.heap.size, 0, none⟩ (.int .i64 0))) := Or.inl ⟨L, _, yI.out, rfl, (hO.turn OE.turn (by have := S3.out; omega)).rd (by have := lL.out; omega), BW.trans (OE.below (Nat.le_refl _))⟩
    clear hO OE BW cu
    go_wp2
    refine leaves_cons (f := 51) (args := #[.pointer (some ⟨w.heap.size, 0, none⟩)]) (by simp) (by simp [go_sem]) ?_
    refine ocl16_ret.mono ?_
    rintro e u' w'' ⟨rfl, rfl, rfl⟩
    exact ⟨.tuple #[.slice la L.length lc, .int .i64 0], by simp [results, Try.results43, go_sem, e5], FIN.out⟩
/-- are parts cut as they should be? -/
def Cuts16 (P : List (List UInt8)) : Prop := ∃ p q, P = [p, q] ∧ CutP p q
/-- a bool that says so, and nothing else -/
def SaysC16 (p : Prop) (w : World) (e : Ending) (w' : World) : Prop := ∃ x : Bool, e = .returned (.bool x) ∧ (x = true ↔ p) ∧ w' = w
theorem SaysC16.no {p : Prop} {w : World} (h : ¬ p) : SaysC16 p w (.returned (.bool false)) w := ⟨_, rfl, ⟨fun e => (by cases e), fun k => absurd k h⟩, rfl⟩
theorem SaysC16.yes {p : Prop} {w : World} (h : p) : SaysC16 p w (.returned (.bool true)) w := ⟨_, rfl, ⟨fun _ => h, fun _ => rfl⟩, rfl⟩
theorem cut_no {p : Prop} (h : p := by
  go_wp2
  go_ret
  exact SaysC16.no N.out) : p := h
set_option maxRecDepth 100000 in
set_option maxHeartbeats 2000000 in
theorem areCut16_any {w : World} {v : Value} {P : List (List UInt8)} (h : Rs w v P) : Calls Try.prog 42 #[v] w (SaysC16 (Cuts16 P) w) := by
  obtain ⟨a, cp, rfl⟩ := h.form
  by_cases h2 : P.length = 2
  rotate_left
  · have h2' : ¬ (P.length : Int) = 2 := by omega
    have N : Hid (¬ Cuts16 P) := by
      rintro ⟨p, q, e, _⟩
      apply h2
      rw [e]; rfl
    clear h
    go_enter Try.func42, Try.ntmps42
    exact cut_no
  obtain ⟨p, q, rfl⟩ : ∃ p q, P = [p, q] := by
    match P, h2 with
    | [p, q], _ => exact ⟨p, q, rfl⟩
  clear h2
  have E : Hid (Cuts16 [p, q] ↔ CutP p q) := ⟨fun ⟨p', q', e, k⟩ => by simp only [List.cons.injEq, and_true] at e; obtain ⟨rfl, rfl⟩ := e; exact k, fun k => ⟨p, q, rfl, k⟩⟩
  obtain ⟨b, off, xa, xc, rfl, _, c0, _⟩ := h.at (i := 0) (by simp)
  obtain ⟨b', off', ya, yc, e, _, c1, _⟩ := h.at (i := 1) (by simp)
  simp at e
  obtain ⟨rfl, rfl⟩ := e
  have z0 : w.cell? ⟨b, off, none⟩ = some (.slice xa p.length xc) := c0
  have z1 : w.cell? ⟨b, off + 1, none⟩ = some (.slice ya q.length yc) := c1
  show Calls Try.prog 42 #[.slice (some ⟨b, off, none⟩) 2 cp] w _
  have E2 : Hid (CutP p q ↔ p.length ≤ 4096 ∧ q.length ≤ 4096 ∧ (q.length = 0 ∨ p.length = 4096)) := by
    show _ ↔ _
    unfold CutP
    rw [List.length_eq_zero_iff]
  have EE : Hid (Cuts16 [p, q] ↔ p.length ≤ 4096 ∧ q.length ≤ 4096 ∧ (q.length = 0 ∨ p.length = 4096)) := E.out.trans E2.out
  clear E E2 c0 c1 h
  generalize Cuts16 [p, q] = CC at EE
  generalize p.length = m at z0 EE
  generalize q.length = n at z1 EE
  go_enter Try.func42, Try.ntmps42
  go_wp2
  go_loopw [3, 12] (fun s i wr => ∃ r : Nat, i = .int .i64 (r : Int) ∧ wr = w ∧ ((r = 0 ∧ s = .int .i64 0) ∨ (r = 1 ∧ s = .int .i64 (m : Int) ∧ Hid (m ≤ 4096)) ∨ (r = 2 ∧ Hid CC))) (fun _ i _ => 2 - (intOf i).toNat)
  case atStart => exact ⟨0, rfl, rfl, Or.inl ⟨rfl, rfl⟩⟩
  case round =>
    obtain ⟨r, rfl, rfl, ⟨rfl, rfl⟩ | ⟨rfl, rfl, hm⟩ | ⟨rfl, Y⟩⟩ := hrel
    · by_cases hm : (m : Int) > 4096
      · have N : Hid (¬ CC) := fun k => by have := (EE.out.1 k).1; omega
        clear EE
        exact cut_no
      · by_cases h0 : (m : Int) > 0
        · go_wp2
          go_roundw
          case rel => exact ⟨1, rfl, by first | rfl | trivial, Or.inr (Or.inl ⟨rfl, rfl, by show _ ≤ _; omega⟩)⟩
          case measure => simp [intOf]
        · go_wp2
          go_roundw
          case rel => exact ⟨1, rfl, by first | rfl | trivial, Or.inr (Or.inl ⟨rfl, rfl, by show _ ≤ _; omega⟩)⟩
          case measure => simp [intOf]
    · have hm' := hm.out
      by_cases hn : (n : Int) > 4096
      · have N : Hid (¬ CC) := fun k => by have := (EE.out.1 k).2.1; omega
        clear EE
        exact cut_no
      by_cases h0 : (n : Int) > 0
      · by_cases hf : (m : Int) = 4096
        · have Y : Hid CC := EE.out.2 (by omega)
          clear EE
          go_wp2
          go_roundw
          case rel => exact ⟨2, rfl, by first | rfl | trivial, Or.inr (Or.inr ⟨rfl, Y⟩)⟩
          case measure => simp [intOf]
        · have N : Hid (¬ CC) := fun k => by have := (EE.out.1 k).2.2; omega
          have hf' : ((m : Int) == 4096) = false := beq_eq_false_iff_ne.2 hf
          clear EE
          exact cut_no
      · have Y : Hid CC := EE.out.2 (by omega)
        clear EE
        by_cases hf : (m : Int) = 4096
        · go_wp2
          go_roundw
          case rel => exact ⟨2, rfl, by first | rfl | trivial, Or.inr (Or.inr ⟨rfl, Y⟩)⟩
          case measure => simp [intOf]
        · have hf' : ((m : Int) == 4096) = false := beq_eq_false_iff_ne.2 hf
          go_wp2
          go_roundw
          case rel => exact ⟨2, rfl, by first | rfl | trivial, Or.inr (Or.inr ⟨rfl, Y⟩)⟩
          case measure => simp [intOf]
    · clear EE
      go_wp2
      go_ret
      exact SaysC16.yes Y.out
set_option maxRecDepth 100000 in
set_option maxHeartbeats 2000000 in
theorem uns16_any {w : World} {v : Value} {P : List (List UInt8)} (h : Rs w v P) (hl : P.length ≤ 1000) : Calls Try.prog 23 #[v] w (UnP16 w P) := by
  have K0 := areCut16_any h
  obtain ⟨a, cp, rfl⟩ := h.form
  go_enter Try.func23, Try.ntmps23
  go_wp2_with fail
  refine K0.mono ?_
  rintro _ w2 ⟨x, rfl, hx, rfl⟩
  have HX : Hid (x = true ↔ Cuts16 P) := hx
  clear K0 hx
  cases x with
  | false =>
    have N : Hid (∀ l, ¬ IsP P l) := fun l ⟨p, q, e, k, _⟩ => by
      have := HX.out.2 ⟨p, q, e, k⟩
      cases this
    clear HX h
    go_wp2
    exact bodyPost_ret (v := .tuple #[.slice none 0 0, .int .i64 160]) (by simp [results, Try.results23, go_sem]) rfl (Or.inr ⟨N.out, rfl, Below.refl _ _⟩)
  | true =>
    obtain ⟨p, q, e, hc⟩ := HX.out.1 rfl
    subst e
    have fl : [p, q].flatten = p ++ q := by simp
    have l1 : (p ++ q).length ≤ 8192 := by rw [List.length_append]; have := hc.1; have := hc.2.1; omega
    have K1 := ccatb_any h (by rw [fl]; omega) (by simp)
    rw [fl] at K1
    have HC : Hid (CutP p q) := hc
    clear HX hc fl
    go_wp2_with fail
    refine K1.mono ?_
    rintro _ w3 ⟨v3, rfl, o3, B3⟩
    clear K1
    have R3 : Rd w3 v3 (p ++ q) := Rd.owned o3
    have K2 := rwo16_any R3 (by omega)
    have lp : (p ++ q).length ≤ 100000 := by omega
    clear o3
    obtain ⟨a3, c3, e3⟩ := R3.form
    rw [e3] at K2
    rw [e3]
    generalize (p ++ q).length = m3 at K2
    clear e3 R3 v3 h
    go_wp2_with fail
    refine K2.mono ?_
    rintro _ w4 (⟨L, u, hb, rfl, hr, B4⟩ | ⟨hn, rfl, B4⟩)
    · have FIN : Hid (UnP16 w2 [p, q] (.returned (.tuple #[u, .int .i64 0])) w4) := Or.inl ⟨L, u, isB_isP.2 ⟨HC.out, hb⟩, rfl, hr, B3.step16 B4 B3.size⟩
      obtain ⟨la, lc, el⟩ := hr.form
      subst el
      clear hb hr K2
      go_wp2
      exact bodyPost_ret (v := .tuple #[.slice la L.length lc, .int .i64 0]) (by simp [results, Try.results23, go_sem]) rfl FIN.out
    · have FIN : Hid (UnP16 w2 [p, q] (.returned (.tuple #[.slice none 0 0, .int .i64 160])) w4) := Or.inr ⟨fun l k => hn l (isB_isP.1 k).2, rfl, B3.step16 B4 B3.size⟩
      clear hn K2
      go_wp2
      exact bodyPost_ret (v := .tuple #[.slice none 0 0, .int .i64 160]) (by simp [results, Try.results23, go_sem]) rfl FIN.out
end Go.Proofs.Ythmoiffkgcnjmaa.Gf

namespace Go.Proofs.Ythmoiffkgcnjmaa.Gf
set_option linter.unusedVariables false
set_option linter.unusedSimpArgs false
open Go.RowKit
def awR : RcS := ⟨1, [97], 5, [3]⟩
theorem aw_a : OkR awR := by decide
theorem aw_a2 : (if OkR awR then enR awR else []) = [1, 1, 97, 0, 0, 0, 5, 0, 1, 0, 3] := by rw [if_pos aw_a]; decide
theorem aw_a3 : chR awR = 0 := if_pos aw_a
def awB : List UInt8 := [2, 1, 97, 0, 0, 0, 0, 0, 0]
def awD : RcS := ⟨2, [97], 0, []⟩
theorem aw_b : IsR awB := by decide
theorem aw_b3 : OkR awD := by decide
theorem aw_c : ¬ IsR [2, 1, 97] := by decide
theorem aw_d : MayL (oL []) := ⟨Nat.zero_le _, fun i hi => absurd hi (Nat.not_lt_zero _), Nat.zero_le _⟩
theorem aw_d2 : snP (oL []) = [[0, 0], []] := rfl
theorem aw_e {l : List ObS} (h : IsP [[0, 0], []] l) : l = [] := isP_one h (by rw [← aw_d2]; exact isP_sn aw_d)
theorem rs_two16 {w : World} {x y : Value} {e b : Nat} {p q : List UInt8} (hb : b = w.heap.size) (h : Rd w x p) (h2 : Rd w y q) : Rs (w.alloc (.cells #[x, y] e)) (.slice (some ⟨b, 0, none⟩) 2 2) [p, q] := by
  subst hb
  have key : ∀ i, i < [p, q].length → ∃ z, #[x, y][i]? = some z ∧ Rd w z (ro [p, q] i) := fun i hi => by
    rcases i with _ | _ | i
    · exact ⟨x, rfl, h⟩
    · exact ⟨y, rfl, h2⟩
    · simp at hi; omega
  refine ⟨some ⟨w.heap.size, 0, none⟩, 2, rfl, Nat.le_refl _, by decide, nofun, fun i hi => ?_⟩
  obtain ⟨z, h1, h2⟩ := key i hi
  exact ⟨w.heap.size, 0, z, rfl, by simp, by rw [Nat.zero_add, World.cell?_alloc_new]; exact h1, h2.below ((Below.refl _ _).alloc (Nat.le_refl _) _)⟩
set_option maxRecDepth 100000 in
set_option maxHeartbeats 4000000 in
theorem awake16_any (w : World) : Calls Try.prog 9 #[] w fun e w' => e = .returned (.bool true) ∧ Below w.heap.size w w' := by
  have W0 : RcV.In (w.alloc (.cells #[.int .i64 3] 3)) ⟨awR, .slice (some ⟨w.heap.size, 0, none⟩) 1 1⟩ := ⟨by show (Lit.int .i64 1).wf = true; decide, by show (Lit.int .i64 5).wf = true; decide, by show 1 ≤ maxLen; decide, rdI_lit2 [3] rfl rfl rfl (by decide), by show ∀ z ∈ [(3 : Int)], (Lit.int .i64 z).wf = true; decide⟩
  have K1 : Calls Try.prog 11 #[.agg #[.int .i64 1, .string ⟨#[97]⟩, .int .i64 5, .slice (some ⟨w.heap.size, 0, none⟩) 1 1]] (w.alloc (.cells #[.int .i64 3] 3)) (MakesE16 (w.alloc (.cells #[.int .i64 3] 3)) 0 [1, 1, 97, 0, 0, 0, 5, 0, 1, 0, 3]) := enc16_any W0 aw_a3 aw_a2
  clear W0
  go_enter Try.func9, Try.ntmps9
  go_wp2_with fail
  refine K1.mono ?_
  rintro _ w1 ⟨v1, rfl, R1, B1⟩
  clear K1
  have C1 : Below w.heap.size w w1 := (belR w _).step16 B1 (belR w _).size
  clear B1
  obtain ⟨a1, c1, e1⟩ := R1.form
  rw [e1] at R1 ⊢
  clear e1 v1
  go_wp2_with fail
  have RL : Rd (w1.alloc (.cells #[.int .u8 2, .int .u8 1, .int .u8 97, .int .u8 0, .int .u8 0, .int .u8 0, .int .u8 0, .int .u8 0, .int .u8 0] 5)) (.slice (some ⟨w1.heap.size, 0, none⟩) 9 9) awB := rd_lit awB rfl rfl (by decide)
  refine (dec16_any RL (by decide) (X := 0) (if_pos aw_b) (r := awD) (if_pos aw_b)).mono ?_
  rintro _ w2 ⟨c, rfl, hc, hi, B2, -⟩
  clear RL
  have D2 : Below w1.heap.size w1 w2 := (belR w1 _).step16 B2 (belR w1 _).size
  replace R1 := R1.below D2
  have C2 := C1.step16 D2 C1.size
  clear D2 B2 C1
  obtain ⟨cr, vs⟩ := c
  simp only at hc
  subst hc
  obtain ⟨va, vc, ev⟩ := hi.rs.form
  simp only at ev
  subst ev
  rw [show aggR ⟨awD, .slice va awD.st.length vc⟩ = .agg #[.int .i64 2, .string ⟨#[97]⟩, .int .i64 0, .slice va 0 vc] from rfl]
  obtain ⟨w3, hw3⟩ : ∃ w3, w3 = w2.alloc (.cells #[.int .i64 2, .string ⟨#[97]⟩, .int .i64 0, .slice va 0 vc] 25) := ⟨_, rfl⟩
  have D3 : Below w2.heap.size w2 w3 := by rw [hw3]; exact belR _ _
  have g : ∀ j, w3.cell? ⟨w2.heap.size, j, none⟩ = #[Value.int .i64 2, .string ⟨#[97]⟩, .int .i64 0, .slice va 0 vc][j]? := fun j => by rw [hw3, World.cell?_alloc_new]
  have l3 : w2.heap.size < w3.heap.size := by rw [hw3]; show w2.heap.size < (w2.heap.push _).size; rw [Array.size_push]; exact Nat.lt_succ_self _
  replace R1 := R1.below D3
  replace hi := hi.below D3
  have C3 := C2.step16 D3 C2.size
  clear D3 C2
  have s3 : w2.heap.size + 1 = w3.heap.size := by rw [hw3]; simp
  have RL : Rd (w3.alloc (.cells #[.int .u8 2, .int .u8 1, .int .u8 97] 5)) (.slice (some ⟨w2.heap.size + 1, 0, none⟩) 3 3) [2, 1, 97] := rd_lit2 [2, 1, 97] s3 rfl rfl (by decide)
  have K3 := dec16_any RL (by decide) (X := 160) (if_neg aw_c) (r := noR) (if_neg aw_c)
  clear RL s3
  go_wp2_with fail
  rw [← hw3]
  clear hw3
  refine K3.mono ?_
  rintro _ w4 ⟨c, rfl, hc, hi4, B4, -⟩
  clear K3
  have D4 : Below w3.heap.size w3 w4 := (belR w3 _).step16 B4 (belR w3 _).size
  clear B4
  obtain ⟨cr, vs⟩ := c
  simp only at hc
  subst hc
  obtain ⟨va4, vc4, ev⟩ := hi4.rs.form
  simp only at ev
  subst ev
  clear hi4
  rw [show aggR ⟨noR, .slice va4 noR.st.length vc4⟩ = .agg #[.int .i64 0, .string ⟨#[]⟩, .int .i64 0, .slice va4 0 vc4] from rfl]
  obtain ⟨w5, hw5⟩ : ∃ w5, w5 = w4.alloc (.cells #[.int .i64 0, .string ⟨#[]⟩, .int .i64 0, .slice va4 0 vc4] 25) := ⟨_, rfl⟩
  have D5 : Below w3.heap.size w3 w5 := D4.step16 (by rw [hw5]; exact belR _ _) D4.size
  clear D4
  go_wp2_with fail
  rw [← hw5]
  clear hw5
  refine (snap16_any (L := []) (w := w5) (Or.inl ⟨none, 0, rfl, rfl⟩) (fun i hi => absurd hi (Nat.not_lt_zero _))).mono ?_
  rintro _ w6 (⟨-, u, rfl, RS, B6⟩ | ⟨hn, -⟩)
  rotate_left
  · exact absurd aw_d hn
  rw [aw_d2] at RS
  have D6 := D5.step16 B6 D5.size
  clear D5 B6
  obtain ⟨ua, uc, eu⟩ := RS.form
  rw [eu] at RS ⊢
  clear eu u
  have K7 := uns16_any RS (by decide)
  go_wp2_with fail
  refine K7.mono ?_
  rintro _ w7 (⟨L, u7, hp7, rfl, RO, B7⟩ | ⟨hn, -⟩)
  rotate_left
  · exact absurd (by rw [← aw_d2]; exact isP_sn aw_d) (hn [])
  clear K7
  have eL : L = [] := by
    have := congrArg List.length (aw_e hp7)
    rw [oL_length] at this
    exact List.length_eq_zero_iff.1 this
  subst eL
  obtain ⟨la, lc, el⟩ := RO.form
  rw [el]
  clear el RO hp7
  have D7 := D6.step16 B7 D6.size
  have RS7 := RS.below B7
  clear RS B7 D6
  have R7 := R1.below D7
  go_wp2_with fail
  have RL : Rd (w7.alloc (.cells #[.int .u8 1, .int .u8 1, .int .u8 97, .int .u8 0, .int .u8 0, .int .u8 0, .int .u8 5, .int .u8 0, .int .u8 1, .int .u8 0, .int .u8 3] 5)) (.slice (some ⟨w7.heap.size, 0, none⟩) 11 11) [1, 1, 97, 0, 0, 0, 5, 0, 1, 0, 3] := rd_lit _ rfl rfl (by decide)
  refine (same_b (R7.below (belR _ _)) RL).mono ?_
  rintro _ w8 ⟨rfl, B8⟩
  rw [sameB_of rfl]
  have E8 : Below w7.heap.size w7 w8 := (belR w7 _).step16 B8 (belR w7 _).size
  have RS8 := RS7.below E8
  have D8 := D7.step16 E8 D7.size
  clear RL R7 R1 RS7 B8 E8 D7
  obtain ⟨wa, hwa⟩ : ∃ wa, wa = (w8.alloc (.cells #[.int .u8 0, .int .u8 0] 5)).alloc (.cells #[] 5) := ⟨_, rfl⟩
  have sa : w8.heap.size + 1 + 1 = wa.heap.size := by rw [hwa]; simp
  have Ba : Below w8.heap.size w8 wa := by rw [hwa]; exact (belR _ _).trans ((belR _ _).mono (by simp))
  have RA : Rd wa (.slice (some ⟨w8.heap.size, 0, none⟩) 2 2) [0, 0] := by rw [hwa]; exact (rd_lit [0, 0] rfl rfl (by decide)).below (belR _ _)
  have RB : Rd wa (.slice (some ⟨w8.heap.size + 1, 0, none⟩) 0 0) [] := Or.inl ⟨_, 0, rfl, rfl, Nat.zero_le _, fun _ => rfl⟩
  have RC : Rs (wa.alloc (.cells #[.slice (some ⟨w8.heap.size, 0, none⟩) 2 2, .slice (some ⟨w8.heap.size + 1, 0, none⟩) 0 0] 26)) (.slice (some ⟨w8.heap.size + 1 + 1, 0, none⟩) 2 2) [[0, 0], []] := rs_two16 sa RA RB
  have K9 := parts16_any ((RS8.below Ba).below (belR wa _)) RC (by decide) (by decide)
  clear RA RB RC sa RS8
  go_wp2_with fail
  rw [← hwa]
  clear hwa
  refine K9.mono ?_
  rintro _ w9 ⟨x, rfl, hx, B9⟩
  obtain rfl : x = true := hx.2 (by first | rfl | trivial)
  clear K9 hx
  have D9 : Below w3.heap.size w3 w9 := (D8.step16 Ba D8.size).step16 ((belR wa _).step16 B9 (belR wa _).size) (Nat.le_trans D8.size Ba.size)
  clear D8 Ba B9
  have x0 : w9.cell? ⟨w2.heap.size, 0, none⟩ = some (.int .i64 2) := (D9.cell (p := ⟨w2.heap.size, 0, none⟩) l3).trans (g 0)
  have x1 : w9.cell? ⟨w2.heap.size, 1, none⟩ = some (.string ⟨#[97]⟩) := (D9.cell (p := ⟨w2.heap.size, 1, none⟩) l3).trans (g 1)
  have x2 : w9.cell? ⟨w2.heap.size, 2, none⟩ = some (.int .i64 0) := (D9.cell (p := ⟨w2.heap.size, 2, none⟩) l3).trans (g 2)
  have x3 : w9.cell? ⟨w2.heap.size, 3, none⟩ = some (.slice va 0 vc) := (D9.cell (p := ⟨w2.heap.size, 3, none⟩) l3).trans (g 3)
  have KC : Calls Try.prog 17 #[.agg #[.int .i64 2, .string ⟨#[97]⟩, .int .i64 0, .slice va 0 vc]] w9 (fun e w' => e = .returned (.int .i64 0) ∧ Below w9.heap.size w9 w') := chk16_any (hi.below D9) (if_pos aw_b3)
  have C9 := C3.step16 D9 C3.size
  clear g hi D9 C3 l3
  go_wp2_with fail
  refine KC.mono ?_
  rintro _ wb ⟨rfl, Bb⟩
  have Cb := C9.step16 Bb C9.size
  clear KC C9 Bb x0 x1 x2 x3
  go_wp2
  go_ret
  exact ⟨rfl, Cb⟩
end Go.Proofs.Ythmoiffkgcnjmaa.Gf
