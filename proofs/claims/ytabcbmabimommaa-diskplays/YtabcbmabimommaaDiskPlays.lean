/- PROVED: for every number sectors and every script of calls the call DiskPlays(sectors, script) returns true, and its arguments read behind it as before; no conditions. -/
import Derived.Test.YtabcbmabimommaaRows
import Derived.Test.YtabcbmabimommaaTome8
import Derived.WalkKit
import Derived.ProofKit
import Derived.OpenShut
import Derived.ShutString
import Derived.ChangeOld
import Derived.Below
namespace Go.Proofs.Ytabcbmabimommaa.diskPlays
open Go.ChangeShapes Go.WideShapes Go.ChangeAt Go.RowKit
open Go.ChangeMaps (open_string shut_string)
set_option linter.unusedVariables false

theorem own : ownKnob Try.prog.godebug = none := by kernel_rfl
theorem laidOut : laidOutB Try.prog = true := by kernel_rfl

/-- WHAT THE WALK IS TOLD OF A SLICE OF INTEGERS THAT CAME IN: it is nil; or it leads to a row of 'cap' cells, the numbers 'zs' (the first 'len' are its elements, the rest its spare room), each fitting its kind. -/
def IsRow (k : IntKind) (w : World) (a : Option Addr) (len cap : Nat) (zs : List Int) : Prop :=
  (a = none ∧ len = 0 ∧ cap = 0 ∧ zs = []) ∨
  ∃ x, a = some x ∧ len ≤ cap ∧ cap ≤ maxLen ∧ zs.length = cap ∧ (∀ i, i < zs.length → w.cell? (x.add i) = some (.int k (zs.getD i 0))) ∧ ∀ n ∈ zs, (Lit.int k n).wf = true

open Gf
set_option linter.unusedSimpArgs false
set_option maxRecDepth 100000 in
set_option maxHeartbeats 4000000 in
theorem walk (a0 : Int) (a1 : Option Addr) (len1 cap1 : Nat) (z1 : List CallR) (w : World) (w0 : (Lit.int .i64 a0).wf = true) (w1 : RdC w (.slice a1 len1 cap1) z1) :
    Calls Try.prog 4 #[.int .i64 a0, .slice a1 len1 cap1] w fun e w' => e = .returned (.bool true) ∧ Below w.heap.size w w' := by
  obtain rfl := w1.lenEq
  by_cases hn : 1 ≤ a0 ∧ a0 ≤ 4096
  · obtain ⟨h1, h2⟩ := hn
    go_enter Try.func4, Try.ntmps4
    go_wp2_with fail
    refine awake_any.mono ?_
    rintro e u1 ⟨rfl, b⟩
    replace w1 := w1.below b
    have N1 := b.size
    go_wp2_with fail
    refine (dmake_any h1 h2).mono ?_
    rintro _ v1 ⟨db, G1, rfl, A1, H1, B1⟩
    go_wp2_with fail
    refine (rnew_any h1 h2).mono ?_
    rintro _ v2 ⟨rfl, hv2⟩
    have D1 : DkB v1 u1.heap.size db G1 (newD a0.toNat) := ⟨A1, H1, B1.size⟩
    have bV : Below v1.heap.size v1 v2 := by rw [hv2]; exact belA _ _
    have R1 : RefAt v2 v1.heap.size (fun k => k = v1.heap.size ∨ G1 k) (newD a0.toNat) := by
      rw [hv2]
      refine ref_new v1 h1 h2 (Or.inl rfl) (fun k hk => ?_)
      rcases hk with e | e
      · omega
      · exact Nat.le_of_lt (A1.lt k e)
    have START : Hid (∃ G, Both u1 v2 db v1.heap.size G (runS (newD a0.toNat) (z1.take 0))) := ⟨G1, D1.below bV, R1, fun h => by have := A1.lt _ h; omega, B1.size, B1.step12 bV B1.size⟩
    clear D1 bV R1
    obtain ⟨rb, hrb⟩ : ∃ r, Hid (r = v1.heap.size) := ⟨_, rfl⟩
    rw [← hrb.out] at START ⊢
    clear A1 H1 B1 hv2 hrb
    go_wp2
    go_loopw [10] (fun i wr => ∃ k : Nat, k ≤ z1.length ∧ k ≤ 60 ∧ i = .int .i64 (k : Int) ∧ ∃ G, Both u1 wr db rb G (runS (newD a0.toNat) (z1.take k))) (fun i _ => 60 - (intOf i).toNat)
    case atStart => exact ⟨0, Nat.zero_le _, Nat.zero_le _, rfl, START.out⟩
    case round =>
      obtain ⟨k, hk1, hk2, rfl, G, hI⟩ := hrel
      clear START
      by_cases hlt : k < z1.length ∧ k < 60
      · obtain ⟨hl1, hl2⟩ := hlt
        have q1 : (k : Int) < (z1.length : Int) := by omega
        have q2 : (k : Int) < 60 := by omega
        have g1 : IntKind.i64.wrap ((k : Int) + 1) = ((k + 1 : Nat) : Int) := by rw [IntKind.wrap_i64]; omega
        obtain ⟨bb, off, rfl, hb, hc⟩ := w1.at hl1
        have HS : Hid (runS (newD a0.toNat) (z1.take (k + 1)) = stepS (runS (newD a0.toNat) (z1.take k)) (z1.getD k default)) := runS_take hl1
        obtain ⟨c, hcc⟩ : ∃ c, c = z1.getD k default := ⟨_, rfl⟩
        rw [← hcc] at hc HS
        clear hcc
        obtain ⟨d, hd⟩ : ∃ d, d = runS (newD a0.toNat) (z1.take k) := ⟨_, rfl⟩
        rw [← hd] at hI HS
        clear hd
        have hcw := hc.below hb hI.B
        obtain ⟨kd, cn, cm, cy, cvb, cvk, cb, ck⟩ := c
        obtain ⟨c0, c1, c2, c3, c4, c5, wk, wn, wm, _, _, wi⟩ := hcw
        have pb : Rd u1 cvb cb := hc.rb
        have pk : RdI u1 cvk ck := hc.rk
        simp only at c0 c1 c2 c3 c4 c5 wk wn wm wi
        clear hc
        obtain ⟨ba, bc, rfl⟩ := pb.form
        obtain ⟨ka, kc, rfl⟩ := pk.form
        by_cases hs : cb.length ≤ 4200 ∧ ck.length ≤ 200
        · have HP : Hid (runS (newD a0.toNat) (z1.take (k + 1)) = playS d ⟨kd, cn, cm, cy, .slice ba cb.length bc, .slice ka ck.length kc, cb, ck⟩) := by
            show _ = _
            rw [HS.out]
            exact if_pos hs
          have ES : decide (cb.length ≤ 4200 ∧ ck.length ≤ 200) = true := decide_eq_true hs
          go_wp2_with fail
          refine (small_any).mono ?_
          rintro _ v3 ⟨rfl, C3⟩
          rw [ES]
          have I3 := hI.below C3
          have y0 := (C3.cell (p := ⟨bb, off + k * 6, none⟩) (Nat.lt_of_lt_of_le hb hI.B.size)).trans c0
          have y1 := (C3.cell (p := ⟨bb, off + k * 6 + 1, none⟩) (Nat.lt_of_lt_of_le hb hI.B.size)).trans c1
          have y2 := (C3.cell (p := ⟨bb, off + k * 6 + 2, none⟩) (Nat.lt_of_lt_of_le hb hI.B.size)).trans c2
          have y3 := (C3.cell (p := ⟨bb, off + k * 6 + 3, none⟩) (Nat.lt_of_lt_of_le hb hI.B.size)).trans c3
          have y4 := (C3.cell (p := ⟨bb, off + k * 6 + 4, none⟩) (Nat.lt_of_lt_of_le hb hI.B.size)).trans c4
          have y5 := (C3.cell (p := ⟨bb, off + k * 6 + 5, none⟩) (Nat.lt_of_lt_of_le hb hI.B.size)).trans c5
          clear c0 c1 c2 c3 c4 c5 C3 hI HS ES
          go_wp2_with fail
          refine (did_any I3 pb pk wn wm wi hs.2).mono ?_
          rintro _ v4 ⟨rfl, G4, I4⟩
          rw [← HP.out] at I4
          clear I3 y0 y1 y2 y3 y4 y5 HP pb pk wi
          obtain ⟨d', hd'⟩ : ∃ d', d' = runS (newD a0.toNat) (z1.take (k + 1)) := ⟨_, rfl⟩
          have HD : Hid _ := hd'
          rw [← hd'] at I4
          clear hd'
          go_wp2_with fail
          obtain ⟨vl, vw, Tl, Tw, Q4⟩ := I4.R
          have bD : Below v4.heap.size v4 v4.drew := (Below.refl _ _).drew
          have J4 := I4.below bD
          have Q4D := Q4.below bD
          have s4 := Q4.c1
          have s4D := Q4D.c1
          have hlen : (heldL d'.last d'.s).length ≤ 100000 := Nat.le_trans (heldL_length _ _) (by have := I4.D.at_.ok.s2; omega)
          go_region_held3 (fun wx => wx.cell? ⟨rb, 1, none⟩ = some vl) (first | exact s4 | exact s4D | exact s6 | exact s5) (first
            | (go_at_call 15; (refine (dlasts_any J4.D.at_).mono ?_); rintro _ v5 ⟨x5, rfl, O5, C5⟩; have I5 := J4.below C5; have Q5 := Q4D.below C5; have s5 := Q5.c1; have r5 := OwnH.rd O5 hlen)
            | (go_at_call 14; (refine (same12_is r5 ⟨Tl, Q5.el, Q5.tl.rd⟩ (decide_eq_true rfl)).mono ?_); rintro _ v6 ⟨rfl, nq6, hq6⟩; have C6 : Below v5.heap.size v5 v6 := (by rw [hq6]; exact (Below.refl _ _).drewN _); clear hq6; have I6 := I5.below C6; have s6 := (Q5.below C6).c1))
          clear Q4 bD J4 Q4D s4 s4D hlen O5 C5 Q5 s5 r5 C6 s6 I5 I4
          go_wp2_with fail
          obtain ⟨vl, vw, Tl, Tw, Q6⟩ := I6.R
          have bD : Below v6.heap.size v6 v6.drew := (Below.refl _ _).drew
          have J6 := I6.below bD
          have Q6D := Q6.below bD
          have s6 := Q6.c2
          have s6D := Q6D.c2
          have hlen : (heldL d'.wait d'.s).length ≤ 100000 := Nat.le_trans (heldL_length _ _) (by have := I6.D.at_.ok.s2; omega)
          go_region_held3 (fun wx => wx.cell? ⟨rb, 2, none⟩ = some vw) (first | exact s6 | exact s6D | exact s8 | exact s7) (first
            | (go_at_call 16; (refine (dwaits_any J6.D.at_).mono ?_); rintro _ v7 ⟨x7, rfl, O7, C7⟩; have I7 := J6.below C7; have Q7 := Q6D.below C7; have s7 := Q7.c2; have r7 := OwnH.rd O7 hlen)
            | (go_at_call 14; (refine (same12_is r7 ⟨Tw, Q7.ew, Q7.tw.rd⟩ (decide_eq_true rfl)).mono ?_); rintro _ v8 ⟨rfl, nq8, hq8⟩; have C8 : Below v7.heap.size v7 v8 := (by rw [hq8]; exact (Below.refl _ _).drewN _); clear hq8; have I8 := I7.below C8; have s8 := (Q7.below C8).c2))
          clear Q6 bD J6 Q6D s6 s6D hlen O7 C7 Q7 s7 r7 C8 s8 I7 I6
          go_wp2_with fail
          have bD : Below v8.heap.size v8 v8.drew := (Below.refl _ _).drew
          have J8 := I8.below bD
          obtain ⟨vl, vw, Tl, Tw, Q8⟩ := J8.R
          have s8D := Q8.c3
          have t8 := J8.D.at_.dead
          have E9 : Hid (∃ G, Both u1 v8.drew db rb G (runS (newD a0.toNat) (z1.take (k + 1)))) := ⟨G4, by rw [← HD.out]; exact J8⟩
          obtain ⟨x, hx⟩ : ∃ x, x = d'.dead := ⟨_, rfl⟩
          rw [← hx] at s8D t8
          have KD := ddead_any t8
          clear Q8 J8 bD I8 HD hx
          go_region_held3 (fun wx => wx.cell? ⟨rb, 3, none⟩ = some (.bool x)) (first | exact s8D) (first
            | (go_at_call 17; (refine KD.mono ?_); rintro _ v9 ⟨rfl, hq⟩; rw [hq]; clear hq v9))
          all_goals
            clear KD s8D t8
            go_wp2
            go_roundw
            case rel => exact ⟨k + 1, by omega, by omega, by go_num, E9.out⟩
            case measure => simp [intOf]; omega
        · have HP : Hid (runS (newD a0.toNat) (z1.take (k + 1)) = d) := by
            show _ = _
            rw [HS.out]
            exact if_neg hs
          have ES : decide (cb.length ≤ 4200 ∧ ck.length ≤ 200) = false := decide_eq_false hs
          go_wp2_with fail
          refine (small_any).mono ?_
          rintro _ v3 ⟨rfl, C3⟩
          rw [ES]
          have E9 : Hid (∃ G, Both u1 v3 db rb G (runS (newD a0.toNat) (z1.take (k + 1)))) := ⟨G, by rw [HP.out]; exact hI.below C3⟩
          clear c0 c1 c2 c3 c4 c5 C3 hI HS ES HP pb pk wi hs
          go_wp2
          go_roundw
          case rel => exact ⟨k + 1, by omega, by omega, by go_num, E9.out⟩
          case measure => simp [intOf]; omega
      · have FB : Hid (Below w.heap.size w wr) := b.trans (hI.B.mono N1)
        clear hI w1
        by_cases hl1 : k < z1.length
        · have q1 : (k : Int) < (z1.length : Int) := by omega
          have q2 : ¬ (k : Int) < 60 := by omega
          go_wp2
          go_ret
          exact ⟨rfl, FB.out⟩
        · have q1 : ¬ (k : Int) < (z1.length : Int) := by omega
          go_wp2
          go_ret
          exact ⟨rfl, FB.out⟩
  · go_enter Try.func4, Try.ntmps4
    go_wp2_with fail
    refine awake_any.mono ?_
    rintro e u1 ⟨rfl, b⟩
    clear w1
    go_wp2_with fail
    refine (dmake_no hn).mono ?_
    rintro _ uq ⟨rfl, hq⟩
    rw [hq]
    clear hq uq
    go_wp2_with fail
    refine (rnew_no hn).mono ?_
    rintro _ uq ⟨rfl, hq⟩
    rw [hq]
    clear hq uq
    go_wp2
    go_ret
    exact ⟨rfl, b⟩

/-! ### THE ROW's STEP: WRITTEN OUT: LEAVE IT -/
set_option maxRecDepth 100000 in
theorem lifted (os : Os) (started : os.Started) (H : Type) (enc : TypeId × Value → H) :
    ReturnsInHanded {} Try.checked os 4 .any (Rows.diskPlaysSpec.pre6 enc Try.prog Try.f4 Rows.diskPlaysRow.domain false) (Rows.diskPlaysSpec.post enc Try.prog Try.f4 false true false false) := by
  refine returnsInHanded_of_change (C := Try.checked) own started (by kernel_rfl) Try.func4
    (ChangeSpec.witness6 (enc := enc) (C := Try.checked) false ⟨#[], #[.int .i64 0, .slice none 0 0], []⟩ 8 (by kernel_rfl) (by kernel_rfl) (by kernel_rfl) (by kernel_rfl)) ?_
  intro W base args ds gs before hval0 hW hcnd _
  have hval : ∀ (j : Nat) t v, Try.f4.params[j]? = some t → args[j]? = some v → Value.okWide Try.prog W .any base t v := hval0
  have hW' := hW
  obtain ⟨p, q, hA0, hV, rfl, hfz, hnd⟩ := hW
  have hA : DataW.TrodAll enc Try.prog W 0 (fun _ => true) true Try.f4.params.toList args.toList ds p := hA0
  rw [Try.params4] at hA hval
  obtain ⟨v0, vs0, d0, ds0, p0, q0, hargs, rfl, rfl, h0, r0⟩ := trodAll_cons hA
  obtain ⟨v1, vs1, d1, ds1, p1, q1, rfl, rfl, rfl, h1, r1⟩ := trodAll_cons r0
  obtain ⟨rfl, rfl, rfl⟩ := trodAll_nil r1
  obtain rfl : args = #[v0, v1] := by cases args; simp_all
  obtain ⟨rfl, rfl⟩ := trodVars_none hV
  obtain ⟨a0, rfl, rfl, rfl, w0⟩ := open_int Try.underlying3 (hval 0 3 v0 rfl rfl) h0
  obtain ⟨a1, len1, cap1, rfl⟩ := okWide_slice Try.underlying23 (hval 1 23 v1 rfl rfl)
  have k1 := h1
  have lt1 : ∀ x ∈ p1, x.block < W.heap.size := by obtain ⟨m, hm⟩ := k1; exact DataW.trod_lt m _ _ _ hm
  obtain ⟨z1, w1⟩ : ∃ zs, RdC W (.slice a1 len1 cap1) zs := by
    obtain ⟨fuel, hf⟩ := h1
    obtain ⟨a9, l9, c9, L9, hcs, _, hR⟩ := open_calls (sb := 5) (si := 3) Try.underlying23 Try.underlying35 (by kernel_rfl) rfl rfl rfl rfl rfl rfl (by kernel_rfl) (by kernel_rfl) (by kernel_rfl) (by kernel_rfl) (by kernel_rfl) (by kernel_rfl) (by kernel_rfl) (by kernel_rfl) (by kernel_rfl) (by kernel_rfl) (by kernel_rfl) (by kernel_rfl) (by kernel_rfl) (by kernel_rfl) (by kernel_rfl) (by kernel_rfl) hf
    simp [Value.cells] at hcs
    obtain ⟨rfl, rfl, rfl⟩ := hcs
    exact ⟨L9, hR⟩
  clear hA0 hval0
  refine (walk a0 a1 len1 cap1 z1 W w0 w1).mono fun e W' ⟨he, bel⟩ => ?_
  subst he
  exact ⟨_, rfl, _, _, _, [], _, [], hW', trodAll_mk1 (shut_bool Try.underlying4 _), (trodAll_cons_mk (shut_int Try.underlying3 w0) (trodAll_cons_mk (Below.trod laidOut (by kernel_rfl) (of_decide_eq_true (by kernel_rfl)) k1 bel lt1) trodAll_mk0)), rfl, bel.frame _, fun h => by cases h⟩

theorem over : Rows.diskPlaysRow.holds Try.pinned (OpenSpec.ofChange Rows.diskPlaysSpec) :=
  OpenClaim.holds_of_wide 4 Try.f4 rfl rfl rfl rfl rfl rfl rfl ⟨rfl, rfl, rfl, rfl, rfl⟩ rfl rfl rfl rfl rfl (by kernel_rfl) Try.func4 (by kernel_rfl)
    (of_decide_eq_true (by kernel_rfl)) (by unfold Func.isWrapper; first | (rw [if_pos (by decide +kernel)]; kernel_rfl) | (rw [if_neg (by decide +kernel)]; exact ⟨rfl, rfl⟩))
    (fun os started H enc _ => lifted os started H enc)

/-- ████ THE STATEMENT ████ -/
theorem proved : Rows.DiskPlaysSaid := over
end Go.Proofs.Ytabcbmabimommaa.diskPlays
namespace Go.Proofs.Ytabcbmabimommaa
theorem diskPlays_holds : Rows.DiskPlaysSaid := diskPlays.proved
#print axioms diskPlays_holds
end Go.Proofs.Ytabcbmabimommaa
