/- PROVED: for every number disks and every script of votes and calls on an array the call VotePlays(disks, script) returns true, and its arguments read behind it as before; no conditions. -/
import Derived.ProofKit
import Derived.ShutString
import Derived.ChangeOld
import Derived.Below
import Derived.Test.YtgahaebfgmbckaaGreatTome41
import Derived.Test.YtgahaebfgmbckaaGreatTome25
namespace Go.Proofs.YtgahaebfgmbckaaGreat.votePlays
open Go.ChangeShapes Go.WideShapes Go.ChangeAt Go.RowKit
open Go.ChangeMaps (open_string shut_string)
set_option linter.unusedVariables false

theorem own : ownKnob Tryz.prog.godebug = none := by kernel_rfl
theorem laidOut : laidOutB Tryz.prog = true := by kernel_rfl

/-- WHAT THE WALK IS TOLD OF A SLICE OF INTEGERS THAT CAME IN: it is nil; or it leads to a row of 'cap' cells, the numbers 'zs' (the first 'len' are its elements, the rest its spare room), each fitting its kind. -/
def IsRow (k : IntKind) (w : World) (a : Option Addr) (len cap : Nat) (zs : List Int) : Prop :=
  (a = none ∧ len = 0 ∧ cap = 0 ∧ zs = []) ∨
  ∃ x, a = some x ∧ len ≤ cap ∧ cap ≤ maxLen ∧ zs.length = cap ∧ (∀ i, i < zs.length → w.cell? (x.add i) = some (.int k (zs.getD i 0))) ∧ ∀ n ∈ zs, (Lit.int k n).wf = true

open Gf
set_option linter.unusedSimpArgs false
theorem vp_ret {p : Prop} (h : p := by
  go_wp2
  go_ret
  exact ⟨rfl, B1⟩) : p := h
theorem RdI.short17 {w : World} {v : Value} {zs : List Int} (h : RdI w v zs) : zs.length ≤ 9223372036854775807 := by
  rcases h with ⟨_, _, rfl, _⟩ | ⟨b, off, c, h1, h2, h3, _⟩
  · exact Nat.zero_le _
  · unfold maxLen at h3
    omega
theorem RdII.short17 {w : World} {v : Value} {L : List VI} (h : RdII w v L) {r : VI} (hr : r ∈ L) : r.2.length ≤ 9223372036854775807 := by
  rcases h with ⟨_, _, rfl, _⟩ | ⟨b, off, c, h1, h2, h3, h4, h5⟩
  · cases hr
  · obtain ⟨i, hi, e⟩ := List.getElem_of_mem hr
    have q := RdI.short17 (h5 i hi).rd
    have e2 : L.getD i default = r := by simp [List.getD, hi, e]
    rw [e2] at q
    exact q

set_option maxRecDepth 100000 in
set_option maxHeartbeats 4000000 in
theorem walk (a0 : Int) (a1 : Option Addr) (len1 cap1 : Nat) (z1 : List CallW) (w : World) (w0 : (Lit.int .i64 a0).wf = true) (w1 : RdV17 w (.slice a1 len1 cap1) z1) :
    Calls Tryz.prog 3 #[.int .i64 a0, .slice a1 len1 cap1] w fun e w' => e = .returned (.bool true) ∧ Below w.heap.size w w' := by
  obtain rfl := w1.lenEq
  have HV : Hid (∀ W, Below w.heap.size w W → RdV17 W (.slice a1 z1.length cap1) z1) := fun W b => w1.below b
  clear w1
  go_enter Tryz.func3, Tryz.ntmps3
  go_wp2_with fail
  refine awake17_any.mono ?_
  rintro e u1 ⟨rfl, B1⟩
  by_cases g1 : a0 < 1
  · exact vp_ret
  by_cases g2 : a0 > 8
  · exact vp_ret
  obtain ⟨m, rfl⟩ : ∃ m : Nat, a0 = (m : Int) := ⟨a0.toNat, by omega⟩
  have K := anew_is (w := u1) (n := (m : Int)) (s := 12) (m := m) (k := 12) rfl (by omega) (by omega) (by decide) (by decide) rfl
  go_wp2_with fail
  refine K.mono ?_
  rintro _ uA ⟨ab, GA, rfl, A1, H1, bA⟩
  clear K
  go_wp2_with fail
  refine (rnewA_any (n := m) (s := 12) (by omega) (by omega) (by decide) (by decide) (GA := GA) A1.lt).mono ?_
  rintro _ v2 ⟨rb, HR, rfl, R2, H2, C2⟩
  have START : Hid (∃ G a, BothA u1 v2 ab rb G HR a) := ⟨GA, newA m 12, ⟨A1.below C2, H1, Nat.le_trans bA.size C2.size⟩, R2, fun k hk => Nat.le_trans bA.size (H2 k hk), bA.step16 C2 bA.size⟩
  have HB1 : Hid (Below w.heap.size w u1) := B1
  clear A1 H1 bA R2 H2 C2 B1
  go_wp2
  go_loopw [10] (fun i wr => ∃ k : Nat, k ≤ 30 ∧ i = .int .i64 (k : Int) ∧ ∃ G a, BothA u1 wr ab rb G HR a) (fun i _ => 30 - (intOf i).toNat)
  case atStart => exact ⟨0, Nat.zero_le _, rfl, START.out⟩
  case round =>
    clear START
    obtain ⟨r, hr, rfl, G, aS, hI⟩ := hrel
    by_cases hlt : r < z1.length ∧ r < 30
    · have l1 : (r : Int) < (z1.length : Int) := by omega
      have l2 : (r : Int) < 30 := by omega
      obtain ⟨b, off, ea, lb, z0⟩ := (HV.out u1 HB1.out).at hlt.1
      subst ea
      have z := z0.below lb hI.B
      generalize z1.getD r default = x at z z0
      obtain ⟨kd, n, mm, vd, d, vk, kn, ⟨ak, ac, an, am, ay, avb, avk, abb, akk⟩⟩ := x
      have pd : Rd u1 vd d := z0.rd
      have pn : RdB u1 vk kn := z0.rk
      have pv : CallV u1 ⟨ak, ac, an, am, ay, avb, avk, abb, akk⟩ := z0.cv
      have pb : Rd u1 avb abb := pv.rb
      have pk : RdII u1 avk akk := pv.rk
      obtain ⟨wn, wd, wcn, wcm⟩ : (Lit.int .i64 n).wf = true ∧ (Lit.int .i64 ac).wf = true ∧ (Lit.int .i64 an).wf = true ∧ (Lit.int .i64 am).wf = true := ⟨z0.wn, pv.wd, pv.wn, pv.wm⟩
      obtain ⟨da, dc, ed⟩ := pd.form
      obtain ⟨ka, kc, ek⟩ := pn.form
      obtain ⟨ba, bc, eb⟩ := pb.form
      obtain ⟨ca, cc, ec⟩ := pk.form
      subst ed ek eb ec
      obtain ⟨t0, t1, t2, t3, t4, t5, t6, t7, t8, t9, t10, t11⟩ := And.intro z.s0 (And.intro z.s1 (And.intro z.s2 (And.intro z.s3 (And.intro z.s4 (And.intro z.s5 (And.intro z.s6 (And.intro z.s7 (And.intro z.s8 (And.intro z.s9 (And.intro z.s10 z.s11))))))))))
      simp only at t0 t1 t2 t3 t4 t5 t6 t7 t8 t9 t10 t11
      obtain ⟨sm, hsm⟩ : ∃ sm, Hid (decide (d.length ≤ 60 ∧ kn.length ≤ 40) = sm) := ⟨_, rfl⟩
      have K := vsmall_any (w := wr) (k := kd) (n := n) (m := mm) (da := da) (ka := ka) (ba := ba) (ca := ca) (dl := d.length) (dc := dc) (kl := kn.length) (kc := kc) (bl := abb.length) (bc := bc) (cl := akk.length) (cc := cc) (q0 := ak) (q1 := ac) (q2 := an) (q3 := am) (q4 := ((ay.toNat : Nat) : Int)) hsm.out
      have lbw : b < wr.heap.size := Nat.lt_of_lt_of_le lb hI.B.size
      clear z z0 pv
      go_wp2_with fail
      refine K.mono ?_
      rintro _ v3 ⟨rfl, C3⟩
      have I3 := hI.below C3
      replace t0 := (C3.cell (p := ⟨b, off + r * 12, none⟩) lbw).trans t0
      replace t1 := (C3.cell (p := ⟨b, off + r * 12 + 1, none⟩) lbw).trans t1
      replace t2 := (C3.cell (p := ⟨b, off + r * 12 + 2, none⟩) lbw).trans t2
      replace t3 := (C3.cell (p := ⟨b, off + r * 12 + 3, none⟩) lbw).trans t3
      replace t4 := (C3.cell (p := ⟨b, off + r * 12 + 4, none⟩) lbw).trans t4
      replace t5 := (C3.cell (p := ⟨b, off + r * 12 + 5, none⟩) lbw).trans t5
      replace t6 := (C3.cell (p := ⟨b, off + r * 12 + 6, none⟩) lbw).trans t6
      replace t7 := (C3.cell (p := ⟨b, off + r * 12 + 7, none⟩) lbw).trans t7
      replace t8 := (C3.cell (p := ⟨b, off + r * 12 + 8, none⟩) lbw).trans t8
      replace t9 := (C3.cell (p := ⟨b, off + r * 12 + 9, none⟩) lbw).trans t9
      replace t10 := (C3.cell (p := ⟨b, off + r * 12 + 10, none⟩) lbw).trans t10
      replace t11 := (C3.cell (p := ⟨b, off + r * 12 + 11, none⟩) lbw).trans t11
      clear K hI C3 lbw
      cases sm with
      | false =>
        have E5 : Hid (∃ G a, BothA u1 v3 ab rb G HR a) := ⟨G, aS, I3⟩
        clear I3 pd pn pb pk t0 t1 t2 t3 t4 t5 t6 t7 t8 t9 t10 t11
        go_wp2
        go_roundw
        case rel => exact ⟨r + 1, by omega, by go_num, E5.out⟩
        case measure => simp [intOf]; omega
      | true =>
        have K := did17_any I3 (kd := kd) (n := n) (m := mm) wn pd (by have := of_decide_eq_true hsm.out; omega) pn (ak := ak) (cy := ay) pb pk wd wcn wcm (fun q hq => RdII.short17 pk hq)
        go_wp2_with fail
        refine K.mono ?_
        rintro _ v4 ⟨rfl, G4, a4, I4⟩
        clear K I3 t0 t1 t2 t3 t4 t5 t6 t7 t8 t9 t10 t11 pd pn pb pk
        go_wp2_with fail
        refine (showsA_any I4).mono ?_
        rintro _ v5 ⟨rfl, I5⟩
        have E5 : Hid (∃ G a, BothA u1 v5 ab rb G HR a) := ⟨G4, a4, I5⟩
        clear I4 I5
        go_wp2
        go_roundw
        case rel => exact ⟨r + 1, by omega, by go_num, E5.out⟩
        case measure => simp [intOf]; omega
    · have B1 : Below w.heap.size w wr := HB1.out.step16 hI.B HB1.out.size
      have NC : ¬ ((r : Int) < (z1.length : Int) ∧ (r : Int) < 30) := fun q => hlt ⟨by omega, by omega⟩
      clear hI
      by_cases c1 : (r : Int) < (z1.length : Int)
      · have c2 : ¬ (r : Int) < 30 := fun q => NC ⟨c1, q⟩
        clear NC
        exact vp_ret
      · clear NC
        exact vp_ret

/-! ### THE ROW's STEP: WRITTEN OUT: LEAVE IT -/
set_option maxRecDepth 100000 in
theorem lifted (os : Os) (started : os.Started) (H : Type) (enc : TypeId × Value → H) :
    ReturnsInHanded {} Tryz.checked os 3 .any (Rows.votePlaysSpec.pre6 enc Tryz.prog Tryz.f3 Rows.votePlaysRow.domain false) (Rows.votePlaysSpec.post enc Tryz.prog Tryz.f3 false true false false) := by
  refine returnsInHanded_of_change (C := Tryz.checked) own started (by kernel_rfl) Tryz.func3
    (ChangeSpec.witness6 (enc := enc) (C := Tryz.checked) false ⟨#[], #[.int .i64 0, .slice none 0 0], []⟩ 8 (by kernel_rfl) (by kernel_rfl) (by kernel_rfl) (by kernel_rfl)) ?_
  intro W base args ds gs before hval0 hW hcnd _
  have hval : ∀ (j : Nat) t v, Tryz.f3.params[j]? = some t → args[j]? = some v → Value.okWide Tryz.prog W .any base t v := hval0
  have hW' := hW
  obtain ⟨p, q, hA0, hV, rfl, hfz, hnd⟩ := hW
  have hA : DataW.TrodAll enc Tryz.prog W 0 (fun _ => true) true Tryz.f3.params.toList args.toList ds p := hA0
  rw [Tryz.params3] at hA hval
  obtain ⟨v0, vs0, d0, ds0, p0, q0, hargs, rfl, rfl, h0, r0⟩ := trodAll_cons hA
  obtain ⟨v1, vs1, d1, ds1, p1, q1, rfl, rfl, rfl, h1, r1⟩ := trodAll_cons r0
  obtain ⟨rfl, rfl, rfl⟩ := trodAll_nil r1
  obtain rfl : args = #[v0, v1] := by cases args; simp_all
  obtain ⟨rfl, rfl⟩ := trodVars_none hV
  obtain ⟨a0, rfl, rfl, rfl, w0⟩ := open_int Tryz.underlying3 (hval 0 3 v0 rfl rfl) h0
  obtain ⟨a1, len1, cap1, rfl⟩ := okWide_slice Tryz.underlying22 (hval 1 22 v1 rfl rfl)
  have k1 := h1
  have lt1 : ∀ x ∈ p1, x.block < W.heap.size := by obtain ⟨m, hm⟩ := k1; exact DataW.trod_lt m _ _ _ hm
  obtain ⟨z1, w1⟩ : ∃ zs, RdV17 W (.slice a1 len1 cap1) zs := by
    obtain ⟨fuel, hf⟩ := h1
    obtain ⟨a9, l9, c9, L9, hcs, _, hR⟩ := open_vcalls (sb := 5) (so := 4) (ss := 59) (si := 3) Tryz.underlying22 Tryz.underlying38 (by kernel_rfl) rfl rfl rfl rfl rfl rfl (by kernel_rfl) (by kernel_rfl) (by kernel_rfl) (by kernel_rfl) (by kernel_rfl) (by kernel_rfl) (by kernel_rfl) (by kernel_rfl) (by kernel_rfl) (by kernel_rfl) (by kernel_rfl) (by kernel_rfl) (by kernel_rfl) Tryz.underlying36 rfl rfl rfl rfl rfl rfl rfl (by kernel_rfl) (by kernel_rfl) (by kernel_rfl) (by kernel_rfl) (by kernel_rfl) (by kernel_rfl) (by kernel_rfl) (by kernel_rfl) (by kernel_rfl) (by kernel_rfl) (by kernel_rfl) (by kernel_rfl) (by kernel_rfl) (by kernel_rfl) (by kernel_rfl) (by kernel_rfl) (by kernel_rfl) (by kernel_rfl) (by kernel_rfl) (by kernel_rfl) hf
    simp [Value.cells] at hcs
    obtain ⟨rfl, rfl, rfl⟩ := hcs
    exact ⟨L9, hR⟩
  clear hA0 hval0
  refine (walk a0 a1 len1 cap1 z1 W w0 w1).mono fun e W' ⟨he, bel⟩ => ?_
  subst he
  exact ⟨_, rfl, _, _, _, [], _, [], hW', trodAll_mk1 (shut_bool Tryz.underlying4 _), (trodAll_cons_mk (shut_int Tryz.underlying3 w0) (trodAll_cons_mk (Below.trod laidOut (by kernel_rfl) (of_decide_eq_true (by kernel_rfl)) k1 bel lt1) trodAll_mk0)), rfl, bel.frame _, fun h => by cases h⟩

theorem over : Rows.votePlaysRow.holds Tryz.pinned (OpenSpec.ofChange Rows.votePlaysSpec) :=
  OpenClaim.holds_of_wide 3 Tryz.f3 rfl rfl rfl rfl rfl rfl rfl ⟨rfl, rfl, rfl, rfl, rfl⟩ rfl rfl rfl rfl rfl (by kernel_rfl) Tryz.func3 (by kernel_rfl)
    (of_decide_eq_true (by kernel_rfl)) (by unfold Func.isWrapper; first | (rw [if_pos (by decide +kernel)]; kernel_rfl) | (rw [if_neg (by decide +kernel)]; exact ⟨rfl, rfl⟩))
    (fun os started H enc _ => lifted os started H enc)

/-- ████ THE STATEMENT ████ -/
theorem proved : Rows.VotePlaysSaid := over
end Go.Proofs.YtgahaebfgmbckaaGreat.votePlays
namespace Go.Proofs.YtgahaebfgmbckaaGreat
theorem votePlays_holds : Rows.VotePlaysSaid := votePlays.proved
#print axioms votePlays_holds
end Go.Proofs.YtgahaebfgmbckaaGreat
