/- PROVED: for all numbers sectors and addr, every script of calls and every list b of bytes the call DiskOwn(sectors, script, addr, b) returns true, and its arguments read behind it as before; no conditions. -/
import Derived.Test.YtabcbmabimommaaRows
import Derived.Test.YtabcbmabimommaaTome7
import Derived.WalkKit
import Derived.ProofKit
import Derived.OpenShut
import Derived.ShutString
import Derived.ChangeOld
import Derived.Below
namespace Go.Proofs.Ytabcbmabimommaa.diskOwn
open Go.ChangeShapes Go.WideShapes Go.ChangeAt Go.RowKit
open Go.ChangeMaps (open_string shut_string)
set_option linter.unusedVariables false

theorem own : ownKnob Try.prog.godebug = none := by kernel_rfl
theorem laidOut : laidOutB Try.prog = true := by kernel_rfl

/-- WHAT THE WALK IS TOLD OF A SLICE OF INTEGERS THAT CAME IN: it is nil; or it leads to a row of 'cap' cells, the numbers 'zs' (the first 'len' are its elements, the rest its spare room), each fitting its kind. -/
def IsRow (k : IntKind) (w : World) (a : Option Addr) (len cap : Nat) (zs : List Int) : Prop :=
  (a = none ∧ len = 0 ∧ cap = 0 ∧ zs = []) ∨
  ∃ x, a = some x ∧ len ≤ cap ∧ cap ≤ maxLen ∧ zs.length = cap ∧ (∀ i, i < zs.length → w.cell? (x.add i) = some (.int k (zs.getD i 0))) ∧ ∀ n ∈ zs, (Lit.int k n).wf = true

open Gf
set_option linter.unusedSimpArgs false
set_option maxRecDepth 100000 in
set_option maxHeartbeats 4000000 in
theorem walk (a0 : Int) (a1 : Option Addr) (len1 cap1 : Nat) (z1 : List CallR) (a2 : Int) (a3 : Option Addr) (len3 cap3 : Nat) (z3 : List Int) (w : World) (w0 : (Lit.int .i64 a0).wf = true) (w1 : RdC w (.slice a1 len1 cap1) z1) (w2 : (Lit.int .i64 a2).wf = true) (w3 : IsRow .u8 w a3 len3 cap3 z3) :
    Calls Try.prog 8 #[.int .i64 a0, .slice a1 len1 cap1, .int .i64 a2, .slice a3 len3 cap3] w fun e w' => e = .returned (.bool true) ∧ Below w.heap.size w w' := by
  obtain rfl := w1.lenEq
  obtain ⟨P, rfl, R3⟩ := rd_row w3
  obtain ⟨i0, hi, hz0, hz1, hz2⟩ := info_parts info_u8
  by_cases hn : 1 ≤ a0 ∧ a0 ≤ 4096
  · obtain ⟨h1, h2⟩ := hn
    by_cases hk : P.length ≤ 4200
    · have hk' : ¬ (P.length : Int) > 4200 := by omega
      go_enter Try.func8, Try.ntmps8
      go_wp2_with fail
      refine awake_any.mono ?_
      rintro e u1 ⟨rfl, b⟩
      replace w1 := w1.below b
      replace R3 := R3.below b
      have N1 := b.size
      go_wp2_with fail
      refine (done_any h1 h2 w1).mono ?_
      rintro _ v0 ⟨db, G0, rfl, A0, H0, B0⟩
      have D0 : DkB v0 u1.heap.size db G0 (runS (newD a0.toNat) (z1.take 60)) := ⟨A0, H0, B0.size⟩
      obtain ⟨d, hd⟩ : ∃ d, d = runS (newD a0.toNat) (z1.take 60) := ⟨_, rfl⟩
      have hs : Hid (d.s = a0.toNat) := by show d.s = _; rw [hd, runS_s]; rfl
      rw [← hd] at D0
      have ok : Hid d.Ok := D0.at_.ok
      clear A0 H0 hd
      have R30 := R3.below B0
      have Bm := belA v0 (.cells #[] 5)
      have Om := own_new12 v0 5
      have R3m := R30.below Bm
      have hszm : v0.heap.size ≤ (v0.alloc (.cells #[] 5)).heap.size := Bm.size
      go_wp2_with (first | (at_builtin; go_loud (refine wpList_append_rd _ rfl (.tmp 33) (.tmp 34) 32 rfl v0.heap.size 5 i0 Try.underlying32 hi hz0 hz1 hz2 (.slice (some ⟨v0.heap.size, 0, none⟩) 0 0) 0 [] rfl Om (.slice a3 P.length cap3) P rfl R3m (by omega) hszm ?_); intro vm m0 hvm hgm))
      have OM : m0.ownsRow v0.heap.size 5 1 vm P.length (P.map vb) := by
        rw [Nat.zero_add, List.nil_append] at hvm
        exact hvm
      have CM : Below v0.heap.size v0 m0 := Bm.grown hgm hszm (fun q hq => by cases hq; exact Nat.le_refl _)
      have DM := D0.below CM
      have BM := B0.step12 CM B0.size
      have lt0 : Hid (∀ k, G0 k → k < v0.heap.size) := D0.at_.lt
      have s0 : Hid (u1.heap.size ≤ v0.heap.size) := B0.size
      clear hvm hgm Bm Om R3m hszm R30 D0 B0 CM
      rcases wr_cases d a2 P with ⟨eX, ef, eb⟩ | eXo
      · have eP := wr_rd ef eb
        have eF := (wr_fa d a2 P a2).trans ef
        have p0 : P.length ≠ 0 := by have := eb.1; omega
        have zz0 : ((P.length : Int) == 0) = false := beq_eq_false_iff_ne.2 (by omega)
        obtain ⟨gm, cm, rfl, hgm, OM0⟩ := owns_form OM p0
        have ng0 : ¬ G0 gm := fun h => by have := lt0.out _ h; omega
        have lm := (owns_at OM0).2
        go_wp2_with fail
        refine (dwrite_is DM.at_ w2 (Rd.owned OM0) eX rfl).mono ?_
        rintro _ v1 ⟨rfl, G1, A1, g1⟩
        have D1 : DkB v1 u1.heap.size db G1 (wrS d a2 P) := DM.grew A1 g1
        have B1 := BM.trans (DM.bel g1)
        have OM1 : v1.ownsRow 0 5 1 (.slice (some ⟨gm, 0, none⟩) P.length cm) P.length (P.map vb) := owns_block OM0 (fun g hg => by cases hg; exact g1.turn.block gm lm ng0)
        have ng1 := g1.off lm ng0
        have ug : u1.heap.size ≤ gm := Nat.le_trans s0.out hgm
        have cell0 : v1.cell? ⟨gm, 0, none⟩ = some (.int .u8 (((co P 0).toNat : Nat) : Int)) := by
          rw [World.ownsRow.cellAt OM1 0 (by omega), List.getElem?_map, List.getElem?_eq_getElem (by omega), co_lt (by omega)]
          rfl
        have fz0 : v1.frozen? ⟨gm, 0, none⟩ = false := World.ownsRow.frozenAt OM1 0
        have XO : ∀ y : UInt8, bits .xor .u8 ((y.toNat : Nat) : Int) 1 = (((y ^^^ 1).toNat : Nat) : Int) := fun y => xor_u8 y 1
        obtain ⟨y0, hy0⟩ : ∃ y, Hid (y = co P 0) := ⟨_, rfl⟩
        rw [← hy0.out] at cell0
        obtain ⟨y1, hy1⟩ : ∃ y, Hid (y = y0 ^^^ 1) := ⟨_, rfl⟩
        have X0 := XO y0
        rw [← hy1.out] at X0
        clear A1 g1 DM BM OM OM0 OM1 lm ng0 hgm lt0 s0 hi hz0 hz1 hz2 XO
        have D1' : DkB (v1.setCell ⟨gm, 0, none⟩ (.int .u8 ((y1.toNat : Nat) : Int))) u1.heap.size db G1 (wrS d a2 P) := D1.off ng1 0 _
        have B1' : Below u1.heap.size u1 (v1.setCell ⟨gm, 0, none⟩ (.int .u8 ((y1.toNat : Nat) : Int))) := B1.trans (set_below ug 0 _)
        clear D1 B1
        go_wp2_with fail
        refine (dread_is D1'.at_ w2 eF eP).mono ?_
        rintro _ v2 ⟨vx, rfl, Ox, C2⟩
        obtain ⟨gx, cx, rfl, hgx, Ox0⟩ := owns_form Ox p0
        have ngx : ¬ G1 gx := fun h => by have := D1'.at_.lt _ h; omega
        have ux : u1.heap.size ≤ gx := Nat.le_trans B1'.size hgx
        have D2 := D1'.below C2
        have B2 := B1'.step12 C2 B1'.size
        clear D1' B1' C2 Ox hgx cell0 fz0 X0 hy1 hy0 ng1 ug
        go_wp2_with fail
        refine (same_is (Rd.owned Ox0) (R3.below B2) (sameB_self P)).mono ?_
        rintro _ v3 ⟨rfl, nq, hq⟩
        have C3 : Below v2.heap.size v2 v3 := by rw [hq]; exact (Below.refl _ _).drewN _
        have D3 := D2.below C3
        have B3 := B2.step12 C3 B2.size
        have Ox3 := owns_after Ox0 C3
        clear C3 D2 B2 Ox0 hq
        have cell0 : v3.cell? ⟨gx, 0, none⟩ = some (.int .u8 (((co P 0).toNat : Nat) : Int)) := by
          rw [World.ownsRow.cellAt Ox3 0 (by omega), List.getElem?_map, List.getElem?_eq_getElem (by omega), co_lt (by omega)]
          rfl
        have fz0 : v3.frozen? ⟨gx, 0, none⟩ = false := World.ownsRow.frozenAt Ox3 0
        obtain ⟨y2, hy2⟩ : ∃ y, Hid (y = co P 0) := ⟨_, rfl⟩
        rw [← hy2.out] at cell0
        obtain ⟨y3, hy3⟩ : ∃ y, Hid (y = y2 ^^^ 1) := ⟨_, rfl⟩
        have X0 : bits .xor .u8 ((y2.toNat : Nat) : Int) 1 = ((y3.toNat : Nat) : Int) := by rw [hy3.out]; exact xor_u8 y2 1
        have D3' : DkB (v3.setCell ⟨gx, 0, none⟩ (.int .u8 ((y3.toNat : Nat) : Int))) u1.heap.size db G1 (wrS d a2 P) := D3.off ngx 0 _
        have B3' : Below u1.heap.size u1 (v3.setCell ⟨gx, 0, none⟩ (.int .u8 ((y3.toNat : Nat) : Int))) := B3.trans (set_below ux 0 _)
        clear D3 B3 Ox3
        go_wp2_with fail
        refine (dwaits_any D3'.at_).mono ?_
        rintro _ v4 ⟨vl, rfl, O4, C4⟩
        obtain ⟨T, hT, OT⟩ := O4
        have LT := OT.loose
        obtain ⟨la, lc, rfl⟩ := owns_slice OT.row
        have lT : T.length ≤ 4096 := by
          rw [← bareT_length, hT]
          exact Nat.le_trans (heldL_length _ _) D3'.at_.ok.s2
        obtain ⟨NB, hNB⟩ : ∃ n, Hid (n = (v3.setCell ⟨gx, 0, none⟩ (.int .u8 ((y3.toNat : Nat) : Int))).heap.size) := ⟨_, rfl⟩
        rw [← hNB.out] at LT
        have ltN : Hid (∀ g, G1 g → g < NB) := by intro g hg; rw [hNB.out]; exact D3'.at_.lt g hg
        have uN : Hid (u1.heap.size ≤ NB) := by show _ ≤ NB; rw [hNB.out]; exact B3'.size
        have D4 := D3'.below C4
        have B4 := B3'.step12 C4 B3'.size
        have START : Hid (LoT v4 NB (.slice la T.length lc) T ∧ DkB v4 u1.heap.size db G1 (wrS d a2 P) ∧ Below u1.heap.size u1 v4) := ⟨LT, D4, B4⟩
        clear D3' B3' C4 hT OT LT hNB D4 B4 cell0 fz0 X0 hy2 hy3 ngx ux
        go_wp2
        go_loopw [17] (fun i wr => ∃ k : Nat, k ≤ T.length ∧ i = .int .i64 (k : Int) ∧ LoT wr NB (.slice la T.length lc) T ∧ DkB wr u1.heap.size db G1 (wrS d a2 P) ∧ Below u1.heap.size u1 wr) (fun i _ => T.length - (intOf i).toNat)
        case atStart => exact ⟨0, Nat.zero_le _, rfl, START.out⟩
        case round =>
          obtain ⟨k, hkT, rfl, hL, hD, hB⟩ := hrel
          clear START
          by_cases hlt : k < T.length
          · have hlt' : (k : Int) < (T.length : Int) := by omega
            have g1 : IntKind.i64.wrap ((k : Int) + 1) = ((k + 1 : Nat) : Int) := by rw [IntKind.wrap_i64]; omega
            obtain ⟨gl, rfl, ck, _⟩ := hL.at hlt
            have tm := getD_mem12 hlt
            obtain ⟨q, _, Oq⟩ := hL.each _ tm
            obtain ⟨t, ht⟩ : ∃ t, t = T.getD k default := ⟨_, rfl⟩
            rw [← ht] at ck tm Oq
            obtain ⟨t1, t2, t3⟩ := t
            simp only at ck Oq
            by_cases q0 : q.length = 0
            · obtain ⟨qa, qc, rfl⟩ := owns_slice Oq
              rw [q0] at ck
              have E2 : Hid (LoT wr NB (.slice (some ⟨gl, 0, none⟩) T.length lc) T ∧ DkB wr u1.heap.size db G1 (wrS d a2 P) ∧ Below u1.heap.size u1 wr) := ⟨hL, hD, hB⟩
              clear hL hD hB Oq ht tm q0
              go_wp2
              go_roundw
              case rel => exact ⟨k + 1, by omega, by go_num, E2.out⟩
              case measure => simp [intOf]; omega
            · obtain ⟨gq, qc, rfl, hgq, Oq0⟩ := owns_form Oq q0
              have cellq : wr.cell? ⟨gq, 0, none⟩ = some (.int .u8 (((co q 0).toNat : Nat) : Int)) := by
                rw [World.ownsRow.cellAt Oq0 0 (by omega), List.getElem?_map, List.getElem?_eq_getElem (by omega), co_lt (by omega)]
                rfl
              have fzq : wr.frozen? ⟨gq, 0, none⟩ = false := World.ownsRow.frozenAt Oq0 0
              obtain ⟨ql, hql⟩ : ∃ n, Hid (n = q.length) := ⟨_, rfl⟩
              have zq : 0 < ql := by rw [hql.out]; omega
              have zq' : (0 : Int) < (ql : Int) := by omega
              obtain ⟨y4, hy4⟩ : ∃ y, Hid (y = co q 0) := ⟨_, rfl⟩
              rw [← hy4.out] at cellq
              obtain ⟨y5, hy5⟩ : ∃ y, Hid (y = y4 ^^^ 1) := ⟨_, rfl⟩
              have X0 : bits .xor .u8 ((y4.toNat : Nat) : Int) 1 = ((y5.toNat : Nat) : Int) := by rw [hy5.out]; exact xor_u8 y4 1
              have ngq : ¬ G1 gq := fun h => by have := ltN.out _ h; omega
              have nlq : gl ≠ gq := fun e => by
                obtain ⟨_, _, cur, r1⟩ := row_at hL.row (g := gl) rfl
                obtain ⟨_, _, cur', r2⟩ := row_at Oq0 (g := gq) rfl
                rw [e, r2] at r1
                simp at r1
              rw [← hql.out] at ck
              have CD : Below (wr.setCell ⟨gq, 0, none⟩ (.int .u8 ((y5.toNat : Nat) : Int))).heap.size (wr.setCell ⟨gq, 0, none⟩ (.int .u8 ((y5.toNat : Nat) : Int))) (wr.setCell ⟨gq, 0, none⟩ (.int .u8 ((y5.toNat : Nat) : Int))).drew := (Below.refl _ _).drew
              have E2 : Hid (LoT (wr.setCell ⟨gq, 0, none⟩ (.int .u8 ((y5.toNat : Nat) : Int))).drew NB (.slice (some ⟨gl, 0, none⟩) T.length lc) T ∧ DkB (wr.setCell ⟨gq, 0, none⟩ (.int .u8 ((y5.toNat : Nat) : Int))).drew u1.heap.size db G1 (wrS d a2 P) ∧ Below u1.heap.size u1 (wr.setCell ⟨gq, 0, none⟩ (.int .u8 ((y5.toNat : Nat) : Int))).drew) :=
                ⟨(hL.set tm rfl y5).after CD, (hD.off ngq 0 _).below CD, (hB.trans (set_below (Nat.le_trans uN.out hgq) 0 _)).drew⟩
              clear hL hD hB Oq Oq0 ht tm hgq hy4 hy5 ngq ltN uN q0 CD hql
              go_wp2_with fail
              go_big_region
              go_wp2
              go_roundw
              case rel => exact ⟨k + 1, by omega, by go_num, E2.out⟩
              case measure => simp [intOf]; omega
          · have hlt' : ¬ (k : Int) < (T.length : Int) := by omega
            have hD' := hD
            clear hL hlt ltN uN
            go_wp2_with fail
            refine (dread_is hD'.at_ w2 eF eP).mono ?_
            rintro _ v5 ⟨vy, rfl, Oy, C5⟩
            have B5 := hB.step12 C5 hB.size
            obtain ⟨ay, cy, rfl⟩ := owns_slice Oy
            go_wp2_with fail
            refine (same_is (Rd.owned Oy) (R3.below B5) (sameB_self P)).mono ?_
            rintro _ v6 ⟨rfl, nq2, hq2⟩
            have FB : Hid (Below w.heap.size w v6) := by
              show Below _ _ _
              rw [hq2]
              exact (b.trans (B5.mono N1)).drewN _
            clear B5 C5 Oy hq2 hD' hD hB R3 w1 ok hs eX ef eb eP eF
            go_wp2
            go_ret
            exact ⟨rfl, FB.out⟩
      · have eX : wrX d a2 P ≠ 0 := by rcases eXo with ⟨e, _⟩ | ⟨e | e, _⟩ <;> rw [e] <;> decide
        obtain ⟨vma, vmc, rfl⟩ := owns_slice OM
        obtain ⟨xf, hxf⟩ : ∃ x, x = wrX d a2 P := ⟨_, rfl⟩
        rw [← hxf] at eX
        have zz0 : (xf == 0) = false := beq_eq_false_iff_ne.2 eX
        go_wp2_with fail
        refine (dwrite_is DM.at_ w2 (Rd.owned OM) hxf.symm rfl).mono ?_
        rintro _ v1 ⟨rfl, G1, A1, g1⟩
        have FB : Hid (Below w.heap.size w v1) := b.trans ((BM.trans (DM.bel g1)).mono N1)
        clear A1 g1 DM BM OM lt0 s0 hi hz0 hz1 hz2 hxf eXo R3 w1 ok hs
        go_wp2
        go_ret
        exact ⟨rfl, FB.out⟩
    · have hk' : (P.length : Int) > 4200 := by omega
      go_enter Try.func8, Try.ntmps8
      go_wp2_with fail
      refine awake_any.mono ?_
      rintro e u1 ⟨rfl, b⟩
      replace w1 := w1.below b
      replace R3 := R3.below b
      have N1 := b.size
      go_wp2_with fail
      refine (done_any h1 h2 w1).mono ?_
      rintro _ v0 ⟨db, G0, rfl, A0, H0, B0⟩
      have D0 : DkB v0 u1.heap.size db G0 (runS (newD a0.toNat) (z1.take 60)) := ⟨A0, H0, B0.size⟩
      obtain ⟨d, hd⟩ : ∃ d, d = runS (newD a0.toNat) (z1.take 60) := ⟨_, rfl⟩
      have hs : Hid (d.s = a0.toNat) := by show d.s = _; rw [hd, runS_s]; rfl
      rw [← hd] at D0
      have ok : Hid d.Ok := D0.at_.ok
      clear A0 H0 hd
      have FB : Hid (Below w.heap.size w v0) := b.trans (B0.mono N1)
      clear D0 B0 
      go_wp2
      go_ret
      exact ⟨rfl, FB.out⟩
  · clear R3 w3
    go_enter Try.func8, Try.ntmps8
    go_wp2_with fail
    refine awake_any.mono ?_
    rintro e u1 ⟨rfl, b⟩
    replace w1 := w1.below b
    have N1 := b.size
    go_wp2_with fail
    refine (done_no hn w1).mono ?_
    rintro _ uq ⟨rfl, hq⟩
    rw [hq]
    clear hq uq
    have FB : Hid (Below w.heap.size w u1) := b
    go_wp2
    go_ret
    exact ⟨rfl, FB.out⟩

/-! ### THE ROW's STEP: WRITTEN OUT: LEAVE IT -/
set_option maxRecDepth 100000 in
theorem lifted (os : Os) (started : os.Started) (H : Type) (enc : TypeId × Value → H) :
    ReturnsInHanded {} Try.checked os 8 .any (Rows.diskOwnSpec.pre6 enc Try.prog Try.f8 Rows.diskOwnRow.domain false) (Rows.diskOwnSpec.post enc Try.prog Try.f8 false true false false) := by
  refine returnsInHanded_of_change (C := Try.checked) own started (by kernel_rfl) Try.func8
    (ChangeSpec.witness6 (enc := enc) (C := Try.checked) false ⟨#[], #[.int .i64 0, .slice none 0 0, .int .i64 0, .slice none 0 0], []⟩ 8 (by kernel_rfl) (by kernel_rfl) (by kernel_rfl) (by kernel_rfl)) ?_
  intro W base args ds gs before hval0 hW hcnd _
  have hval : ∀ (j : Nat) t v, Try.f8.params[j]? = some t → args[j]? = some v → Value.okWide Try.prog W .any base t v := hval0
  have hW' := hW
  obtain ⟨p, q, hA0, hV, rfl, hfz, hnd⟩ := hW
  have hA : DataW.TrodAll enc Try.prog W 0 (fun _ => true) true Try.f8.params.toList args.toList ds p := hA0
  rw [Try.params8] at hA hval
  obtain ⟨v0, vs0, d0, ds0, p0, q0, hargs, rfl, rfl, h0, r0⟩ := trodAll_cons hA
  obtain ⟨v1, vs1, d1, ds1, p1, q1, rfl, rfl, rfl, h1, r1⟩ := trodAll_cons r0
  obtain ⟨v2, vs2, d2, ds2, p2, q2, rfl, rfl, rfl, h2, r2⟩ := trodAll_cons r1
  obtain ⟨v3, vs3, d3, ds3, p3, q3, rfl, rfl, rfl, h3, r3⟩ := trodAll_cons r2
  obtain ⟨rfl, rfl, rfl⟩ := trodAll_nil r3
  obtain rfl : args = #[v0, v1, v2, v3] := by cases args; simp_all
  obtain ⟨rfl, rfl⟩ := trodVars_none hV
  obtain ⟨a0, rfl, rfl, rfl, w0⟩ := open_int Try.underlying3 (hval 0 3 v0 rfl rfl) h0
  obtain ⟨a1, len1, cap1, rfl⟩ := okWide_slice Try.underlying23 (hval 1 23 v1 rfl rfl)
  have k1 := h1
  have lt1 : ∀ x ∈ p1, x.block < W.heap.size := by obtain ⟨m, hm⟩ := k1; exact DataW.trod_lt m _ _ _ hm
  obtain ⟨z1, w1⟩ : ∃ zs, RdC W (.slice a1 len1 cap1) zs := by
    obtain ⟨fuel, hf⟩ := h1
    obtain ⟨a9, l9, c9, L9, hcs, _, hR⟩ := open_calls (sb := 5) (si := 3) Try.underlying23 Try.underlying35 (by kernel_rfl) rfl rfl rfl rfl rfl rfl (by kernel_rfl) (by kernel_rfl) (by kernel_rfl) (by kernel_rfl) (by kernel_rfl) (by kernel_rfl) (by kernel_rfl) (by kernel_rfl) (by kernel_rfl) (by kernel_rfl) (by kernel_rfl) (by kernel_rfl) (by kernel_rfl) (by kernel_rfl) (by kernel_rfl) (by kernel_rfl) hf
    simp [Value.cells] at hcs
    obtain ⟨rfl, rfl, rfl⟩ := hcs
    exact ⟨L9, hR⟩
  obtain ⟨a2, rfl, rfl, rfl, w2⟩ := open_int Try.underlying3 (hval 2 3 v2 rfl rfl) h2
  obtain ⟨a3, len3, cap3, rfl⟩ := okWide_slice Try.underlying32 (hval 3 32 v3 rfl rfl)
  have k3 := h3
  have lt3 : ∀ x ∈ p3, x.block < W.heap.size := by obtain ⟨m, hm⟩ := k3; exact DataW.trod_lt m _ _ _ hm
  obtain ⟨z3, w3⟩ : ∃ zs, IsRow .u8 W a3 len3 cap3 zs := by
    obtain ⟨fuel, hf⟩ := h3
    rcases open_ints Try.underlying32 Try.underlying5 (by kernel_rfl) hf with ⟨hcs, _⟩ | ⟨x, l, c, zs, hcs, _, hl, hm, hz, _, hcell, hwz⟩
    · simp [Value.cells] at hcs
      obtain ⟨rfl, rfl, rfl⟩ := hcs
      exact ⟨[], .inl ⟨rfl, rfl, rfl, rfl⟩⟩
    · simp [Value.cells] at hcs
      obtain ⟨rfl, rfl, rfl⟩ := hcs
      exact ⟨zs, .inr ⟨_, rfl, hl, hm, by simpa using hz, hcell, hwz⟩⟩
  clear hA0 hval0
  refine (walk a0 a1 len1 cap1 z1 a2 a3 len3 cap3 z3 W w0 w1 w2 w3).mono fun e W' ⟨he, bel⟩ => ?_
  subst he
  exact ⟨_, rfl, _, _, _, [], _, [], hW', trodAll_mk1 (shut_bool Try.underlying4 _), (trodAll_cons_mk (shut_int Try.underlying3 w0) (trodAll_cons_mk (Below.trod laidOut (by kernel_rfl) (of_decide_eq_true (by kernel_rfl)) k1 bel lt1) (trodAll_cons_mk (shut_int Try.underlying3 w2) (trodAll_cons_mk (Below.trod laidOut (by kernel_rfl) (of_decide_eq_true (by kernel_rfl)) k3 bel lt3) trodAll_mk0)))), rfl, bel.frame _, fun h => by cases h⟩

theorem over : Rows.diskOwnRow.holds Try.pinned (OpenSpec.ofChange Rows.diskOwnSpec) :=
  OpenClaim.holds_of_wide 8 Try.f8 rfl rfl rfl rfl rfl rfl rfl ⟨rfl, rfl, rfl, rfl, rfl⟩ rfl rfl rfl rfl rfl (by kernel_rfl) Try.func8 (by kernel_rfl)
    (of_decide_eq_true (by kernel_rfl)) (by unfold Func.isWrapper; first | (rw [if_pos (by decide +kernel)]; kernel_rfl) | (rw [if_neg (by decide +kernel)]; exact ⟨rfl, rfl⟩))
    (fun os started H enc _ => lifted os started H enc)

/-- ████ THE STATEMENT ████ -/
theorem proved : Rows.DiskOwnSaid := over
end Go.Proofs.Ytabcbmabimommaa.diskOwn
namespace Go.Proofs.Ytabcbmabimommaa
theorem diskOwn_holds : Rows.DiskOwnSaid := diskOwn.proved
#print axioms diskOwn_holds
end Go.Proofs.Ytabcbmabimommaa
