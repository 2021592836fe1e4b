/- PROVED: for all numbers disks, addr, epoch, keep and how and every slice data of bytes the call VoteWrites(disks, addr, epoch, data, keep, how) returns true, and its arguments read behind it as before; no conditions. -/
import Derived.ProofKit
import Derived.ShutString
import Derived.ChangeOld
import Derived.Below
import Derived.Test.YtgahaebfgmbckaaTome25
namespace Go.Proofs.Ytgahaebfgmbckaa.voteWrites
open Go.ChangeShapes Go.WideShapes Go.ChangeAt Go.RowKit
open Go.ChangeMaps (open_string shut_string)
set_option linter.unusedVariables false

theorem own : ownKnob Try.prog.godebug = none := by kernel_rfl
theorem laidOut : laidOutB Try.prog = true := by kernel_rfl

/-- WHAT THE WALK IS TOLD OF A SLICE OF INTEGERS THAT CAME IN: it is nil; or it leads to a row of 'cap' cells, the numbers 'zs' (the first 'len' are its elements, the rest its spare room), each fitting its kind. -/
def IsRow (k : IntKind) (w : World) (a : Option Addr) (len cap : Nat) (zs : List Int) : Prop :=
  (a = none ∧ len = 0 ∧ cap = 0 ∧ zs = []) ∨
  ∃ x, a = some x ∧ len ≤ cap ∧ cap ≤ maxLen ∧ zs.length = cap ∧ (∀ i, i < zs.length → w.cell? (x.add i) = some (.int k (zs.getD i 0))) ∧ ∀ n ∈ zs, (Lit.int k n).wf = true

open Gf
set_option linter.unusedSimpArgs false
theorem vwrite_is {w : World} {ab : Nat} {GA : Nat → Prop} {a : ArS} (h : ArAt w ab GA a) {ad ep : Int} (ha : (Lit.int .i64 ad).wf = true) {v : Value} {p : List UInt8} (hp : Rd w v p) (hpl : p.length ≤ 100000) {n x : Int} (hn : wvN a ad ep p = n) (hx : wvX a ad ep p = x) {a' : ArS} (hs : wvS a ad ep p = a') :
    Calls Try.prog 10 #[.pointer (some ⟨ab, 0, none⟩), .int .i64 ad, .int .i64 ep, v] w (LeavesA w ab GA a' (.tuple #[.int .i64 n, .int .i64 x])) := by
  rw [← hn, ← hx, ← hs]; exact vwrite17_any h ha hp hpl
theorem vmend_is {w : World} {ab : Nat} {GA : Nat → Prop} {a : ArS} (h : ArAt w ab GA a) {ad : Int} (ha : (Lit.int .i64 ad).wf = true) {u : Value} {K : List Bool} (hk : RdB w u K) {n x : Int} (hn : mdN a K ad = n) (hx : mdX a K ad = x) {a' : ArS} (hs : mdS a K ad = a') :
    Calls Try.prog 11 #[.pointer (some ⟨ab, 0, none⟩), u, .int .i64 ad] w (LeavesA w ab GA a' (.tuple #[.int .i64 n, .int .i64 x])) := by
  rw [← hn, ← hx, ← hs]; exact vmend17_any h ha hk
theorem vg_ret {p : Prop} (h : p := by
  go_wp2
  go_ret
  exact ⟨rfl, B1⟩) : p := h

set_option maxRecDepth 100000 in
set_option maxHeartbeats 4000000 in
theorem walk (a0 : Int) (a1 : Int) (a2 : Int) (a3 : Option Addr) (len3 cap3 : Nat) (z3 : List Int) (a4 : Int) (a5 : Int) (w : World) (w0 : (Lit.int .i64 a0).wf = true) (w1 : (Lit.int .i64 a1).wf = true) (w2 : (Lit.int .i64 a2).wf = true) (w3 : IsRow .u8 w a3 len3 cap3 z3) (w4 : (Lit.int .i64 a4).wf = true) (w5 : (Lit.int .i64 a5).wf = true) :
    Calls Try.prog 3 #[.int .i64 a0, .int .i64 a1, .int .i64 a2, .slice a3 len3 cap3, .int .i64 a4, .int .i64 a5] w fun e w' => e = .returned (.bool true) ∧ Below w.heap.size w w' := by
  obtain ⟨D, rfl, hD⟩ := rd_row w3
  have HD : Hid (Rd w (.slice a3 D.length cap3) D) := hD
  clear w3 hD
  go_enter Try.func3, Try.ntmps3
  go_wp2_with fail
  refine awake17_any.mono ?_
  rintro e u1 ⟨rfl, B1⟩
  by_cases g1 : a0 < 1
  · exact vg_ret
  by_cases g2 : a0 > 8
  · exact vg_ret
  by_cases g3 : (D.length : Int) > 60
  · exact vg_ret
  by_cases g4 : a4 < 0
  · exact vg_ret
  by_cases g5 : a4 ≥ a0
  · exact vg_ret
  obtain ⟨m, rfl⟩ : ∃ m : Nat, a0 = (m : Int) := ⟨a0.toNat, by omega⟩
  obtain ⟨kp, rfl⟩ : ∃ kp : Nat, a4 = (kp : Int) := ⟨a4.toNat, by omega⟩
  have lD : D.length ≤ 100000 := by omega
  have hm1 : 1 ≤ m := by omega
  have hkp : kp < m := by omega
  have K := anew_is (w := u1) (n := (m : Int)) (s := 12) (m := m) (k := 12) rfl (by omega) (by omega) (by decide) (by decide) rfl
  go_wp2_with fail
  refine K.mono ?_
  rintro _ uA ⟨ab, GA, rfl, A1, H1, bA⟩
  have SA : ArB uA w.heap.size ab GA (newA m 12) := ⟨A1, fun k hk => Nat.le_trans B1.size (H1 k hk), Nat.le_trans B1.size bA.size⟩
  have CA := B1.step16 bA B1.size
  clear K A1 H1 bA B1
  by_cases ho : OkSe a1 a2 D.length
  rotate_left
  · have K := vwrite_is SA.at_ (ad := a1) (ep := a2) w1 (HD.out.below CA) lD (n := 0) (x := 1) (by unfold wvN wvP; rw [if_neg ho]; rfl) (if_neg ho) rfl
    go_wp2_with fail
    refine K.mono ?_
    rintro _ uB ⟨rfl, GB, AB, gB⟩
    have B1 := CA.trans (SA.bel gB)
    clear K SA CA AB gB
    exact vg_ret
  obtain ⟨⟨hx, hn⟩, hcW, hdW⟩ := writes_new (n := m) hm1 ho
  by_cases g6 : a1 ≤ 11
  rotate_left
  · rw [if_neg g6] at hn
    have g6' : a1 > 11 := by omega
    have K := vwrite_is SA.at_ (ad := a1) (ep := a2) w1 (HD.out.below CA) lD hn hx rfl
    clear hcW hdW hn hx
    go_wp2_with fail
    refine K.mono ?_
    rintro _ uB ⟨rfl, GB, AB, gB⟩
    have B1 := CA.trans (SA.bel gB)
    clear K SA CA AB gB
    exact vg_ret
  rw [if_pos g6] at hn
  obtain ⟨aW, haW⟩ : ∃ aW, Hid (wvS (newA m 12) a1 a2 D = aW) := ⟨_, rfl⟩
  have K := vwrite_is SA.at_ (ad := a1) (ep := a2) w1 (HD.out.below CA) lD hn hx haW.out
  have g6' : ¬ a1 > 11 := by omega
  rw [haW.out] at hcW hdW
  have hlW : aW.D.length = m := by rw [← haW.out, wvS_len]; simp [newA]
  go_wp2_with fail
  refine K.mono ?_
  rintro _ uB ⟨rfl, GB, AB, gB⟩
  have SB := SA.grew AB gB
  have CB := CA.trans (SA.bel gB)
  clear K SA CA AB gB hn hx haW
  obtain ⟨kd, hkd⟩ : ∃ kd : Int, Hid (kd = if Int.tmod a5 2 = 0 then 1 else 2) := ⟨_, rfl⟩
  have kd0 : kd ≠ 0 := by rw [hkd.out]; split <;> decide
  obtain ⟨W1, W2, W3, W4, W5, W6, W7⟩ := writes_all (a := aW) (n := m) ho g6 hlW hcW (hdW g6) hkp (kind := kd) (at_ := a5) kd0
  have HM : Hid (mdN aW [] a1 = 0 ∧ mdX aW [] a1 = 0 ∧ mdS aW [] a1 = aW) := by
    refine ⟨?_, ?_, ?_⟩
    · unfold mdN; rw [W1]; rfl
    · unfold mdX; rw [W1]; rfl
    · unfold mdS; rw [W1]
  have HR : Hid (rvX (hvA kd a1 a5 kp aW m) = 0 ∧ rvV (hvA kd a1 a5 kp aW m) [] a1 = ⟨true, a2, D, 1, false⟩) := ⟨if_neg (by rw [W7.1]; decide), W2⟩
  have HN : Hid (mdN (hvA kd a1 a5 kp aW m) [] a1 = ((m - 1 : Nat) : Int) ∧ mdX (hvA kd a1 a5 kp aW m) [] a1 = 0) := by
    refine ⟨?_, ?_⟩
    · unfold mdN puN; rw [W3, W4]; rfl
    · unfold mdX puE; rw [W3]; rfl
  obtain ⟨VE, hVE⟩ : ∃ VE, Hid (rvV (mdS (hvA kd a1 a5 kp aW m) [] a1) [] a1 = VE ∧ VE.co = m) := ⟨_, rfl, W5⟩
  have HXE : Hid (rvX (mdS (hvA kd a1 a5 kp aW m) [] a1) = 0) := if_neg (by rw [W6.1]; decide)
  clear W1 W2 W3 W4 W5 W6 W7 hcW hdW ho
  have K := vmend_is SB.at_ (ad := a1) w1 rdB_none HM.out.1 HM.out.2.1 HM.out.2.2
  go_wp2_with fail
  refine K.mono ?_
  rintro _ uC ⟨rfl, GC, AC, gC⟩
  have SC := SB.grew AC gC
  have CC : Hid (Below w.heap.size w uC) := CB.trans (SB.bel gC)
  clear K SB CB AC gC HM
  go_wp2_with fail
  go_loopw [20] (fun i wr => ∃ (r : Nat) (G : Nat → Prop), r ≤ m ∧ i = .int .i64 (r : Int) ∧ ArB wr w.heap.size ab G (hvA kd a1 a5 kp aW r) ∧ Hid (Below w.heap.size w wr)) (fun i _ => m - (intOf i).toNat)
  case atStart => exact ⟨0, GC, Nat.zero_le _, rfl, SC, CC⟩
  case round =>
    clear SC CC
    obtain ⟨r, G, hr, rfl, hS, hC⟩ := hrel
    have hrw : (Lit.int .i64 (r : Int)).wf = true := by simp [Lit.wf, IntKind.min, IntKind.max, IntKind.signed, IntKind.bits]; omega
    by_cases hlt : r < m
    · have hlt' : (r : Int) < (m : Int) := by omega
      by_cases qk : r = kp
      · have E : Hid (hvA kd a1 a5 kp aW (r + 1) = hvA kd a1 a5 kp aW r) := by show _ = _; rw [hvA, if_pos qk]
        have S' : ArB wr w.heap.size ab G (hvA kd a1 a5 kp aW (r + 1)) := by rw [E.out]; exact hS
        have qk' : (r : Int) = (kp : Int) := by omega
        have qb : ((r : Int) == (kp : Int)) = true := beq_iff_eq.2 qk'
        clear hS E
        go_wp2
        go_roundw
        case rel => exact ⟨r + 1, G, by omega, by go_num, S', hC⟩
        case measure => simp [intOf]; omega
      · have E : hvA kd a1 a5 kp aW (r + 1) = hdA kd a1 a5 (hvA kd a1 a5 kp aW r) (r : Int) := by rw [hvA, if_neg qk]
        have qk' : ¬ (r : Int) = (kp : Int) := by omega
        have qb : ((r : Int) == (kp : Int)) = false := beq_eq_false_iff_ne.2 qk'
        by_cases qt : Int.tmod a5 2 = 0
        · have k1 : kd = 1 := by rw [hkd.out, if_pos qt]
          have E2 : Hid (hvA kd a1 a5 kp aW (r + 1) = rpAS (hvA kd a1 a5 kp aW r) (r : Int)) := by show _ = _; rw [E]; unfold hdA; rw [if_neg kd0, if_pos k1]
          have K := arepl_any hS.at_ (i := (r : Int)) hrw
          clear E k1
          go_wp2_with fail
          refine K.mono ?_
          rintro _ uD ⟨rfl, GD, AD, gD⟩
          have S' : ArB uD w.heap.size ab GD (hvA kd a1 a5 kp aW (r + 1)) := by rw [E2.out]; exact hS.grew AD gD
          have C' : Hid (Below w.heap.size w uD) := hC.out.trans (hS.bel gD)
          clear K hS hC AD gD E2
          go_wp2
          go_roundw
          case rel => exact ⟨r + 1, GD, by omega, by go_num, S', C'⟩
          case measure => simp [intOf]; omega
        · have k1 : kd = 2 := by rw [hkd.out, if_neg qt]
          have E2 : Hid (hvA kd a1 a5 kp aW (r + 1) = coAS (hvA kd a1 a5 kp aW r) (r : Int) a1 a5 1) := by show _ = _; rw [E]; unfold hdA; rw [if_neg kd0, if_neg (by rw [k1]; decide)]
          have qt' : (Int.tmod a5 2 == 0) = false := beq_eq_false_iff_ne.2 qt
          have qtn : (Int.tmod a5 2 != 0) = true := by simp [qt]
          have qbn : ((r : Int) != (kp : Int)) = true := by simp [qk']
          have K := acorr_any hS.at_ (i := (r : Int)) (ad := a1) (at_ := a5) hrw w1 w5 1
          rw [show (((1 : UInt8).toNat : Nat) : Int) = 1 from rfl] at K
          clear E k1
          go_wp2_with fail
          refine K.mono ?_
          rintro _ uD ⟨rfl, GD, AD, gD⟩
          have S' : ArB uD w.heap.size ab GD (hvA kd a1 a5 kp aW (r + 1)) := by rw [E2.out]; exact hS.grew AD gD
          have C' : Hid (Below w.heap.size w uD) := hC.out.trans (hS.bel gD)
          clear K hS hC AD gD E2
          go_wp2
          go_roundw
          case rel => exact ⟨r + 1, GD, by omega, by go_num, S', C'⟩
          case measure => simp [intOf]; omega
    · obtain rfl : r = m := by omega
      have hge : ¬ (r : Int) < (r : Int) := by omega
      have K := vread_is hS.at_ (ad := a1) w1 rdB_none HR.out.1 HR.out.2
      go_wp2_with fail
      refine K.mono ?_
      rintro _ u3 ⟨vd, rfl, R3, F3, b3⟩
      obtain ⟨va, vc, ev⟩ := R3.form
      simp only at ev R3
      subst ev
      have T4 : ToldV (u3.alloc (.cells #[.bool true, .int .i64 a2, .slice va D.length vc, .int .i64 1, .bool false] 34)) G u3.heap.size ⟨true, a2, D, 1, false⟩ (.slice va D.length vc) := ToldV.laid hS.at_ (V := ⟨true, a2, D, 1, false⟩) R3 F3 b3 34 rfl
      have q4 := belR u3 (.cells #[.bool true, .int .i64 a2, .slice va D.length vc, .int .i64 1, .bool false] 34)
      have S4 := (hS.below b3).below q4
      have C4 := (hC.out.step16 b3 hC.out.size).step16 q4 (hC.out.step16 b3 hC.out.size).size
      rw [show aggV ⟨true, a2, D, 1, false⟩ (.slice va D.length vc) = .agg #[.bool true, .int .i64 a2, .slice va D.length vc, .int .i64 1, .bool false] from rfl]
      clear K hS hC R3 F3 b3 q4 HR
      have K := same_b T4.rd.rd (HD.out.below C4)
      rw [show sameB D D = true from sameB_self _] at K
      have v2 := T4.c2
      go_wp2_with fail
      refine K.mono ?_
      rintro _ u5 ⟨rfl, b5⟩
      have T5 := T4.below b5
      have S5 := S4.below b5
      have C5 := C4.step16 b5 C4.size
      have v0 := T5.c0
      have v1 := T5.c1
      have v3 : u5.cell? ⟨u3.heap.size, 3, none⟩ = some (.int .i64 1) := T5.c3
      simp only at v0 v1
      clear K S4 C4 T4 T5 b5 v2
      have K := vmend_is S5.at_ (ad := a1) w1 rdB_none HN.out.1 HN.out.2 rfl
      go_wp2_with fail
      refine K.mono ?_
      rintro _ u6 ⟨rfl, G6, A6, g6q⟩
      have S6 := S5.grew A6 g6q
      have C6 := C5.trans (S5.bel g6q)
      clear K S5 C5 A6 g6q v0 v1 v3
      have K := vread_is S6.at_ (ad := a1) w1 rdB_none HXE.out hVE.out.1
      have HC6 : Hid (VE.co = r) := hVE.out.2
      obtain ⟨eh, ee, eda, eco, ew⟩ := VE
      go_wp2_with fail
      refine K.mono ?_
      rintro _ u7 ⟨vd, rfl, R7, F7, b7⟩
      obtain ⟨ea, ec, ev⟩ := R7.form
      simp only at ev HC6
      subst ev
      have ec' : eco = r := HC6.out
      subst ec'
      rw [show aggV ⟨eh, ee, eda, eco, ew⟩ (.slice ea eda.length ec) = .agg #[.bool eh, .int .i64 ee, .slice ea eda.length ec, .int .i64 ((eco : Nat) : Int), .bool ew] from rfl]
      have q8 := belR u7 (.cells #[.bool eh, .int .i64 ee, .slice ea eda.length ec, .int .i64 ((eco : Nat) : Int), .bool ew] 34)
      have FIN : Hid (Below w.heap.size w (u7.alloc (.cells #[.bool eh, .int .i64 ee, .slice ea eda.length ec, .int .i64 ((eco : Nat) : Int), .bool ew] 34))) := (C6.step16 b7 C6.size).step16 q8 (C6.step16 b7 C6.size).size
      have qs : ((eco - 1 : Nat) : Int) = (eco : Int) - 1 := by omega
      have qw : IntKind.i64.wrap ((eco : Int) - 1) = (eco : Int) - 1 := by rw [IntKind.wrap_i64]; omega
      clear K S6 C6 R7 F7 b7 q8 HC6 hVE HXE HN
      go_wp2
      go_ret
      exact ⟨by first | rfl | simp, FIN.out⟩

/-! ### THE ROW's STEP: WRITTEN OUT: LEAVE IT -/
set_option maxRecDepth 100000 in
theorem lifted (os : Os) (started : os.Started) (H : Type) (enc : TypeId × Value → H) :
    ReturnsInHanded {} Try.checked os 3 .any (Rows.voteWritesSpec.pre6 enc Try.prog Try.f3 Rows.voteWritesRow.domain false) (Rows.voteWritesSpec.post enc Try.prog Try.f3 false true false false) := by
  refine returnsInHanded_of_change (C := Try.checked) own started (by kernel_rfl) Try.func3
    (ChangeSpec.witness6 (enc := enc) (C := Try.checked) false ⟨#[], #[.int .i64 0, .int .i64 0, .int .i64 0, .slice none 0 0, .int .i64 0, .int .i64 0], []⟩ 8 (by kernel_rfl) (by kernel_rfl) (by kernel_rfl) (by kernel_rfl)) ?_
  intro W base args ds gs before hval0 hW hcnd _
  have hval : ∀ (j : Nat) t v, Try.f3.params[j]? = some t → args[j]? = some v → Value.okWide Try.prog W .any base t v := hval0
  have hW' := hW
  obtain ⟨p, q, hA0, hV, rfl, hfz, hnd⟩ := hW
  have hA : DataW.TrodAll enc Try.prog W 0 (fun _ => true) true Try.f3.params.toList args.toList ds p := hA0
  rw [Try.params3] at hA hval
  obtain ⟨v0, vs0, d0, ds0, p0, q0, hargs, rfl, rfl, h0, r0⟩ := trodAll_cons hA
  obtain ⟨v1, vs1, d1, ds1, p1, q1, rfl, rfl, rfl, h1, r1⟩ := trodAll_cons r0
  obtain ⟨v2, vs2, d2, ds2, p2, q2, rfl, rfl, rfl, h2, r2⟩ := trodAll_cons r1
  obtain ⟨v3, vs3, d3, ds3, p3, q3, rfl, rfl, rfl, h3, r3⟩ := trodAll_cons r2
  obtain ⟨v4, vs4, d4, ds4, p4, q4, rfl, rfl, rfl, h4, r4⟩ := trodAll_cons r3
  obtain ⟨v5, vs5, d5, ds5, p5, q5, rfl, rfl, rfl, h5, r5⟩ := trodAll_cons r4
  obtain ⟨rfl, rfl, rfl⟩ := trodAll_nil r5
  obtain rfl : args = #[v0, v1, v2, v3, v4, v5] := by cases args; simp_all
  obtain ⟨rfl, rfl⟩ := trodVars_none hV
  obtain ⟨a0, rfl, rfl, rfl, w0⟩ := open_int Try.underlying3 (hval 0 3 v0 rfl rfl) h0
  obtain ⟨a1, rfl, rfl, rfl, w1⟩ := open_int Try.underlying3 (hval 1 3 v1 rfl rfl) h1
  obtain ⟨a2, rfl, rfl, rfl, w2⟩ := open_int Try.underlying3 (hval 2 3 v2 rfl rfl) h2
  obtain ⟨a3, len3, cap3, rfl⟩ := okWide_slice Try.underlying22 (hval 3 22 v3 rfl rfl)
  have k3 := h3
  have lt3 : ∀ x ∈ p3, x.block < W.heap.size := by obtain ⟨m, hm⟩ := k3; exact DataW.trod_lt m _ _ _ hm
  obtain ⟨z3, w3⟩ : ∃ zs, IsRow .u8 W a3 len3 cap3 zs := by
    obtain ⟨fuel, hf⟩ := h3
    rcases open_ints Try.underlying22 Try.underlying5 (by kernel_rfl) hf with ⟨hcs, _⟩ | ⟨x, l, c, zs, hcs, _, hl, hm, hz, _, hcell, hwz⟩
    · simp [Value.cells] at hcs
      obtain ⟨rfl, rfl, rfl⟩ := hcs
      exact ⟨[], .inl ⟨rfl, rfl, rfl, rfl⟩⟩
    · simp [Value.cells] at hcs
      obtain ⟨rfl, rfl, rfl⟩ := hcs
      exact ⟨zs, .inr ⟨_, rfl, hl, hm, by simpa using hz, hcell, hwz⟩⟩
  obtain ⟨a4, rfl, rfl, rfl, w4⟩ := open_int Try.underlying3 (hval 4 3 v4 rfl rfl) h4
  obtain ⟨a5, rfl, rfl, rfl, w5⟩ := open_int Try.underlying3 (hval 5 3 v5 rfl rfl) h5
  clear hA0 hval0
  refine (walk a0 a1 a2 a3 len3 cap3 z3 a4 a5 W w0 w1 w2 w3 w4 w5).mono fun e W' ⟨he, bel⟩ => ?_
  subst he
  exact ⟨_, rfl, _, _, _, [], _, [], hW', trodAll_mk1 (shut_bool Try.underlying4 _), (trodAll_cons_mk (shut_int Try.underlying3 w0) (trodAll_cons_mk (shut_int Try.underlying3 w1) (trodAll_cons_mk (shut_int Try.underlying3 w2) (trodAll_cons_mk (Below.trod laidOut (by kernel_rfl) (of_decide_eq_true (by kernel_rfl)) k3 bel lt3) (trodAll_cons_mk (shut_int Try.underlying3 w4) (trodAll_cons_mk (shut_int Try.underlying3 w5) trodAll_mk0)))))), rfl, bel.frame _, fun h => by cases h⟩

theorem over : Rows.voteWritesRow.holds Try.pinned (OpenSpec.ofChange Rows.voteWritesSpec) :=
  OpenClaim.holds_of_wide 3 Try.f3 rfl rfl rfl rfl rfl rfl rfl ⟨rfl, rfl, rfl, rfl, rfl⟩ rfl rfl rfl rfl rfl (by kernel_rfl) Try.func3 (by kernel_rfl)
    (of_decide_eq_true (by kernel_rfl)) (by unfold Func.isWrapper; first | (rw [if_pos (by decide +kernel)]; kernel_rfl) | (rw [if_neg (by decide +kernel)]; exact ⟨rfl, rfl⟩))
    (fun os started H enc _ => lifted os started H enc)

/-- ████ THE STATEMENT ████ -/
theorem proved : Rows.VoteWritesSaid := over
end Go.Proofs.Ytgahaebfgmbckaa.voteWrites
namespace Go.Proofs.Ytgahaebfgmbckaa
theorem voteWrites_holds : Rows.VoteWritesSaid := voteWrites.proved
#print axioms voteWrites_holds
end Go.Proofs.Ytgahaebfgmbckaa
