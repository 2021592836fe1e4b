/- PROVED: for every number disks, every script of calls on an array and every number addr the call VoteTwice(disks, script, addr) returns true, and its arguments read behind it as before; no conditions. -/
import Derived.ProofKit
import Derived.ShutString
import Derived.ChangeOld
import Derived.Below
import Derived.Test.YtgahaebfgmbckaaTome25
import Derived.Test.YtgahaebfgmbckaaTome28
import Derived.Test.YtgahaebfgmbckaaTome27
namespace Go.Proofs.Ytgahaebfgmbckaa.voteTwice
open Go.ChangeShapes Go.WideShapes Go.ChangeAt Go.RowKit
open Go.ChangeMaps (open_string shut_string)
set_option linter.unusedVariables false

theorem own : ownKnob Try.prog.godebug = none := by kernel_rfl
theorem laidOut : laidOutB Try.prog = true := by kernel_rfl

/-- WHAT THE WALK IS TOLD OF A SLICE OF INTEGERS THAT CAME IN: it is nil; or it leads to a row of 'cap' cells, the numbers 'zs' (the first 'len' are its elements, the rest its spare room), each fitting its kind. -/
def IsRow (k : IntKind) (w : World) (a : Option Addr) (len cap : Nat) (zs : List Int) : Prop :=
  (a = none ∧ len = 0 ∧ cap = 0 ∧ zs = []) ∨
  ∃ x, a = some x ∧ len ≤ cap ∧ cap ≤ maxLen ∧ zs.length = cap ∧ (∀ i, i < zs.length → w.cell? (x.add i) = some (.int k (zs.getD i 0))) ∧ ∀ n ∈ zs, (Lit.int k n).wf = true

open Gf
set_option linter.unusedSimpArgs false
theorem vmend_is {w : World} {ab : Nat} {GA : Nat → Prop} {a : ArS} (h : ArAt w ab GA a) {ad : Int} (ha : (Lit.int .i64 ad).wf = true) {u : Value} {K : List Bool} (hk : RdB w u K) {n x : Int} (hn : mdN a K ad = n) (hx : mdX a K ad = x) {a' : ArS} (hs : mdS a K ad = a') :
    Calls Try.prog 11 #[.pointer (some ⟨ab, 0, none⟩), u, .int .i64 ad] w (LeavesA w ab GA a' (.tuple #[.int .i64 n, .int .i64 x])) := by
  rw [← hn, ← hx, ← hs]; exact vmend17_any h ha hk

set_option maxRecDepth 100000 in
set_option maxHeartbeats 4000000 in
theorem walk (a0 : Int) (a1 : Option Addr) (len1 cap1 : Nat) (z1 : List CallA) (a2 : Int) (w : World) (w0 : (Lit.int .i64 a0).wf = true) (w1 : RdA w (.slice a1 len1 cap1) z1) (w2 : (Lit.int .i64 a2).wf = true) :
    Calls Try.prog 7 #[.int .i64 a0, .slice a1 len1 cap1, .int .i64 a2] w fun e w' => e = .returned (.bool true) ∧ Below w.heap.size w w' := by
  obtain rfl := w1.lenEq
  have HW1 : Hid (∀ W G, Below w.heap.size w W → (∀ g, G g → w.heap.size ≤ g) → ToldA W G (.slice a1 z1.length cap1) z1) := fun W G b hG => ToldA.old w1 hG b
  clear w1
  go_enter Try.func7, Try.ntmps7
  go_wp2_with fail
  refine awake17_any.mono ?_
  rintro e u1 ⟨rfl, B1⟩
  by_cases g1 : a0 < 1
  · go_wp2
    go_ret
    exact ⟨rfl, B1⟩
  by_cases g2 : a0 > 8
  · go_wp2
    go_ret
    exact ⟨rfl, B1⟩
  obtain ⟨m, rfl⟩ : ∃ m : Nat, a0 = (m : Int) := ⟨a0.toNat, by omega⟩
  have K := anew_is (w := u1) (n := (m : Int)) (s := 12) (m := m) (k := 12) rfl (by omega) (by omega) (by decide) (by decide) rfl
  go_wp2_with fail
  refine K.mono ?_
  rintro _ uA ⟨ab, GA, rfl, A1, H1, bA⟩
  have SA : ArB uA w.heap.size ab GA (newA m 12) := ⟨A1, fun k hk => Nat.le_trans B1.size (H1 k hk), Nat.le_trans B1.size bA.size⟩
  have CA := B1.step16 bA B1.size
  clear K A1 H1 bA B1
  have K := adone_any SA.at_ (HW1.out uA GA CA SA.low)
  go_wp2_with fail
  refine K.mono ?_
  rintro _ uB ⟨rfl, GB, AB, gB⟩
  have SB := SA.grew AB gB
  have CB := CA.trans (SA.bel gB)
  clear K SA CA AB gB
  have K := arestart_any SB.at_ (v := .slice none 0 0) (K := []) (ToldII.old (Or.inl ⟨none, 0, rfl, rfl⟩) SB.low CB) (fun r hr => by cases hr)
  go_wp2_with fail
  refine K.mono ?_
  rintro _ u2 ⟨rfl, G2, A2, g2'⟩
  obtain ⟨aS, haS⟩ : ∃ aS, Hid (aS = reAS (runA (newA m 12) (z1.take 50)) []) := ⟨_, rfl⟩
  have S2 : ArB u2 w.heap.size ab G2 aS := by rw [haS.out]; exact SB.grew A2 g2'
  have C2 := CB.trans (SB.bel g2')
  have hcS : Gf.Calm aS := by rw [haS.out]; exact calm_re _ _
  have hsS : SizA aS 12 := by rw [haS.out]; exact siz_re (siz_run (siz_new m 12)) _
  have LS : aS.D.length = m := by rw [haS.out]; simp only [reAS, List.length_mapIdx]; rw [runA_len]; simp [newA]
  clear K SB CB A2 g2' haS
  obtain ⟨vh, ve, vda, c1, c2, n1, cl, aE, R1, M1, R2, M2, le, lc, hv⟩ := tw_all (ad := a2) hcS hsS
  have LN : Hid (aE.D.length = m) := le.trans LS
  have LC : Hid (cnt (fun i => !(aE.D.getD i default).dead) m = cl) := by rw [← LS]; exact lc
  have HV : Hid ((vh = false ∧ n1 = 0 ∧ c2 = 0) ∨ (vh = true ∧ c2 = cl ∧ n1 + c1 = cl)) := hv
  have CLm : Hid (cl ≤ 8) := by have h1 := cnt_le (fun i => !(aE.D.getD i default).dead) m; rw [LC.out] at h1; show _ ≤ _; omega
  have C1m : Hid (c1 ≤ 8) := by
    have h1 : (rvV aS [] a2).co = c1 := by rw [R1.2]
    show c1 ≤ 8
    rw [← h1, rvV, if_neg (by rw [hcS.1]; decide)]
    have := vo_co (sayL aS a2) []
    rw [sayL_length, LS] at this
    omega
  clear hcS hsS LS le lc hv
  have K := vread_is S2.at_ (ad := a2) w2 rdB_none R1.1 R1.2
  go_wp2_with fail
  refine K.mono ?_
  rintro _ u3 ⟨vd, rfl, R3, F3, b3⟩
  obtain ⟨va, vc, ev⟩ := R3.form
  simp only at ev R3
  subst ev
  have T4 : ToldV (u3.alloc (.cells #[.bool vh, .int .i64 ve, .slice va vda.length vc, .int .i64 ((c1 : Nat) : Int), .bool false] 34)) G2 u3.heap.size ⟨vh, ve, vda, c1, false⟩ (.slice va vda.length vc) := ToldV.laid S2.at_ (V := ⟨vh, ve, vda, c1, false⟩) R3 F3 b3 34 rfl
  have q4 := belR u3 (.cells #[.bool vh, .int .i64 ve, .slice va vda.length vc, .int .i64 ((c1 : Nat) : Int), .bool false] 34)
  have S4 := (S2.below b3).below q4
  have C4 := (C2.step16 b3 C2.size).step16 q4 (C2.step16 b3 C2.size).size
  rw [show aggV ⟨vh, ve, vda, c1, false⟩ (.slice va vda.length vc) = .agg #[.bool vh, .int .i64 ve, .slice va vda.length vc, .int .i64 ((c1 : Nat) : Int), .bool false] from rfl]
  clear K S2 C2 R3 F3 b3 q4
  have K := vmend_is S4.at_ (ad := a2) w2 rdB_none M1.1 M1.2.1 M1.2.2
  go_wp2_with fail
  refine K.mono ?_
  rintro _ u5 ⟨rfl, G5, A5, g5⟩
  have S5 := S4.grew A5 g5
  have T5 := T4.grew g5
  have C5 := C4.trans (S4.bel g5)
  obtain ⟨b1, hb1⟩ : ∃ b1, b1 = u3.heap.size := ⟨_, rfl⟩
  rw [← hb1] at T5 ⊢
  clear K S4 T4 C4 A5 g5 hb1
  have K := vread_is S5.at_ (ad := a2) w2 rdB_none R2.1 R2.2
  go_wp2_with fail
  refine K.mono ?_
  rintro _ u6 ⟨vd, rfl, R6, F6, b6⟩
  obtain ⟨wa, wc, ew⟩ := R6.form
  simp only at ew R6
  subst ew
  have T7 : ToldV (u6.alloc (.cells #[.bool vh, .int .i64 ve, .slice wa vda.length wc, .int .i64 ((c2 : Nat) : Int), .bool false] 34)) G5 u6.heap.size ⟨vh, ve, vda, c2, false⟩ (.slice wa vda.length wc) := ToldV.laid S5.at_ (V := ⟨vh, ve, vda, c2, false⟩) R6 F6 b6 34 rfl
  have q7 := belR u6 (.cells #[.bool vh, .int .i64 ve, .slice wa vda.length wc, .int .i64 ((c2 : Nat) : Int), .bool false] 34)
  have S7 := (S5.below b6).below q7
  have U7 := (T5.below b6).below q7
  have C7 := (C5.step16 b6 C5.size).step16 q7 (C5.step16 b6 C5.size).size
  rw [show aggV ⟨vh, ve, vda, c2, false⟩ (.slice wa vda.length wc) = .agg #[.bool vh, .int .i64 ve, .slice wa vda.length wc, .int .i64 ((c2 : Nat) : Int), .bool false] from rfl]
  clear K S5 T5 C5 R6 F6 b6 q7
  have K := vmend_is S7.at_ (ad := a2) w2 rdB_none M2.1 M2.2.1 M2.2.2
  go_wp2_with fail
  refine K.mono ?_
  rintro _ u8 ⟨rfl, G8, A8, g8⟩
  have S8 := S7.grew A8 g8
  have T8 := U7.grew g8
  have V8 := T7.grew g8
  have C8 := C7.trans (S7.bel g8)
  obtain ⟨b2, hb2⟩ : ∃ b2, b2 = u6.heap.size := ⟨_, rfl⟩
  rw [← hb2] at V8 ⊢
  clear K S7 U7 T7 C7 A8 g8 hb2
  have K := alive_is S8.at_ LN.out
  go_wp2_with fail
  refine K.mono ?_
  rintro _ u9 ⟨lg, rfl, RL, lgl, b9⟩
  have T9 := T8.below b9
  have V9 := V8.below b9
  have C9 : Hid (Below w.heap.size w u9) := C8.step16 b9 C8.size
  clear K S8 T8 V8 C8 b9 lgl
  obtain ⟨p, hp⟩ : ∃ p : Nat → Bool, Hid (p = fun i => !(aE.D.getD i default).dead) := ⟨_, rfl⟩
  have RL' : u9.rowIs lg 4 m (fun i => .bool (p i)) := by rw [hp.out]; exact RL
  have CN : Hid (cnt p m = cl) := by rw [hp.out]; exact LC.out
  clear RL hp
  go_wp2_with fail
  go_loopw [19, 20] (fun cv i wr => ∃ r : Nat, r ≤ m ∧ i = .int .i64 (r : Int) ∧ cv = .int .i64 ((cnt p r : Nat) : Int) ∧ wr = u9) (fun _ i _ => m - (intOf i).toNat)
  case atStart => exact ⟨0, Nat.zero_le _, rfl, rfl, rfl⟩
  case round =>
    obtain ⟨r, hr, rfl, rfl, rfl⟩ := hrel
    have clr : cnt p r ≤ r := cnt_le p r
    by_cases hlt : r < m
    · have hlt' : (r : Int) < (m : Int) := by omega
      have cc := RL'.cell hlt
      cases hpr : p r with
      | false =>
        have CE : Hid (cnt p (r + 1) = cnt p r) := cnt_not hpr
        rw [hpr] at cc
        go_wp2
        go_roundw
        case rel => exact ⟨r + 1, by omega, by go_num, by rw [CE.out], by first | rfl | trivial⟩
        case measure => simp [intOf]; omega
      | true =>
        have CE : Hid (cnt p (r + 1) = cnt p r + 1) := cnt_yes hpr
        rw [hpr] at cc
        go_wp2
        go_roundw
        case rel => exact ⟨r + 1, by omega, by go_num, by rw [CE.out]; go_num, by first | rfl | trivial⟩
        case measure => simp [intOf]; omega
    · obtain rfl : r = m := by omega
      have hge : ¬ (r : Int) < (r : Int) := by omega
      have v0 := T9.c0
      have v1 := T9.c1
      have v2 := T9.c2
      have v3 := T9.c3
      have y0 := V9.c0
      have y1 := V9.c1
      have y2 := V9.c2
      have y3 := V9.c3
      simp only at v0 v1 v3 y0 y1 y3
      have KS := same_b T9.rd.rd V9.rd.rd
      rw [show sameB vda vda = true from sameB_self _] at KS
      rw [CN.out]
      have lt1 := T9.lt
      have lt2 := V9.lt
      clear T9 V9 RL' CN
      go_wp2_with fail
      refine KS.mono ?_
      rintro _ uz ⟨rfl, bz⟩
      have FIN : Hid (Below w.heap.size w uz) := C9.out.step16 bz C9.out.size
      replace v0 := (bz.cell (p := ⟨b1, 0, none⟩) lt1).trans v0
      replace v1 := (bz.cell (p := ⟨b1, 1, none⟩) lt1).trans v1
      replace v3 := (bz.cell (p := ⟨b1, 3, none⟩) lt1).trans v3
      replace y0 := (bz.cell (p := ⟨b2, 0, none⟩) lt2).trans y0
      replace y1 := (bz.cell (p := ⟨b2, 1, none⟩) lt2).trans y1
      replace y3 := (bz.cell (p := ⟨b2, 3, none⟩) lt2).trans y3
      clear KS bz v2 y2 lt1 lt2 C9
      have qw : IntKind.i64.wrap ((cl : Int) - (c1 : Int)) = (cl : Int) - (c1 : Int) := by have := CLm.out; have := C1m.out; rw [IntKind.wrap_i64]; omega
      rcases HV.out with ⟨rfl, rfl, rfl⟩ | ⟨rfl, rfl, hsum⟩
      · go_wp2
        go_ret
        exact ⟨rfl, FIN.out⟩
      · have ql : (n1 : Int) ≤ (c2 : Int) - (c1 : Int) := by omega
        clear hsum
        go_wp2
        go_ret
        exact ⟨by first | rfl | simp [ql], FIN.out⟩

/-! ### THE ROW's STEP: WRITTEN OUT: LEAVE IT -/
set_option maxRecDepth 100000 in
theorem lifted (os : Os) (started : os.Started) (H : Type) (enc : TypeId × Value → H) :
    ReturnsInHanded {} Try.checked os 7 .any (Rows.voteTwiceSpec.pre6 enc Try.prog Try.f7 Rows.voteTwiceRow.domain false) (Rows.voteTwiceSpec.post enc Try.prog Try.f7 false true false false) := by
  refine returnsInHanded_of_change (C := Try.checked) own started (by kernel_rfl) Try.func7
    (ChangeSpec.witness6 (enc := enc) (C := Try.checked) false ⟨#[], #[.int .i64 0, .slice none 0 0, .int .i64 0], []⟩ 8 (by kernel_rfl) (by kernel_rfl) (by kernel_rfl) (by kernel_rfl)) ?_
  intro W base args ds gs before hval0 hW hcnd _
  have hval : ∀ (j : Nat) t v, Try.f7.params[j]? = some t → args[j]? = some v → Value.okWide Try.prog W .any base t v := hval0
  have hW' := hW
  obtain ⟨p, q, hA0, hV, rfl, hfz, hnd⟩ := hW
  have hA : DataW.TrodAll enc Try.prog W 0 (fun _ => true) true Try.f7.params.toList args.toList ds p := hA0
  rw [Try.params7] at hA hval
  obtain ⟨v0, vs0, d0, ds0, p0, q0, hargs, rfl, rfl, h0, r0⟩ := trodAll_cons hA
  obtain ⟨v1, vs1, d1, ds1, p1, q1, rfl, rfl, rfl, h1, r1⟩ := trodAll_cons r0
  obtain ⟨v2, vs2, d2, ds2, p2, q2, rfl, rfl, rfl, h2, r2⟩ := trodAll_cons r1
  obtain ⟨rfl, rfl, rfl⟩ := trodAll_nil r2
  obtain rfl : args = #[v0, v1, v2] := by cases args; simp_all
  obtain ⟨rfl, rfl⟩ := trodVars_none hV
  obtain ⟨a0, rfl, rfl, rfl, w0⟩ := open_int Try.underlying3 (hval 0 3 v0 rfl rfl) h0
  obtain ⟨a1, len1, cap1, rfl⟩ := okWide_slice Try.underlying48 (hval 1 48 v1 rfl rfl)
  have k1 := h1
  have lt1 : ∀ x ∈ p1, x.block < W.heap.size := by obtain ⟨m, hm⟩ := k1; exact DataW.trod_lt m _ _ _ hm
  obtain ⟨z1, w1⟩ : ∃ zs, RdA W (.slice a1 len1 cap1) zs := by
    obtain ⟨fuel, hf⟩ := h1
    obtain ⟨a9, l9, c9, L9, hcs, _, hR⟩ := open_acalls (sb := 5) (ss := 70) (si := 3) Try.underlying48 Try.underlying43 (by kernel_rfl) rfl rfl rfl rfl rfl rfl rfl (by kernel_rfl) (by kernel_rfl) (by kernel_rfl) (by kernel_rfl) (by kernel_rfl) (by kernel_rfl) (by kernel_rfl) (by kernel_rfl) (by kernel_rfl) (by kernel_rfl) (by kernel_rfl) (by kernel_rfl) (by kernel_rfl) (by kernel_rfl) (by kernel_rfl) (by kernel_rfl) (by kernel_rfl) (by kernel_rfl) (by kernel_rfl) (by kernel_rfl) hf
    simp [Value.cells] at hcs
    obtain ⟨rfl, rfl, rfl⟩ := hcs
    exact ⟨L9, hR⟩
  obtain ⟨a2, rfl, rfl, rfl, w2⟩ := open_int Try.underlying3 (hval 2 3 v2 rfl rfl) h2
  clear hA0 hval0
  refine (walk a0 a1 len1 cap1 z1 a2 W w0 w1 w2).mono fun e W' ⟨he, bel⟩ => ?_
  subst he
  exact ⟨_, rfl, _, _, _, [], _, [], hW', trodAll_mk1 (shut_bool Try.underlying4 _), (trodAll_cons_mk (shut_int Try.underlying3 w0) (trodAll_cons_mk (Below.trod laidOut (by kernel_rfl) (of_decide_eq_true (by kernel_rfl)) k1 bel lt1) (trodAll_cons_mk (shut_int Try.underlying3 w2) trodAll_mk0))), rfl, bel.frame _, fun h => by cases h⟩

theorem over : Rows.voteTwiceRow.holds Try.pinned (OpenSpec.ofChange Rows.voteTwiceSpec) :=
  OpenClaim.holds_of_wide 7 Try.f7 rfl rfl rfl rfl rfl rfl rfl ⟨rfl, rfl, rfl, rfl, rfl⟩ rfl rfl rfl rfl rfl (by kernel_rfl) Try.func7 (by kernel_rfl)
    (of_decide_eq_true (by kernel_rfl)) (by unfold Func.isWrapper; first | (rw [if_pos (by decide +kernel)]; kernel_rfl) | (rw [if_neg (by decide +kernel)]; exact ⟨rfl, rfl⟩))
    (fun os started H enc _ => lifted os started H enc)

/-- ████ THE STATEMENT ████ -/
theorem proved : Rows.VoteTwiceSaid := over
end Go.Proofs.Ytgahaebfgmbckaa.voteTwice
namespace Go.Proofs.Ytgahaebfgmbckaa
theorem voteTwice_holds : Rows.VoteTwiceSaid := voteTwice.proved
#print axioms voteTwice_holds
end Go.Proofs.Ytgahaebfgmbckaa
