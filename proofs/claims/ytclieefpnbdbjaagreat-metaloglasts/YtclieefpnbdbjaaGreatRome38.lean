/- TEXTS JOINED: MeCA, MeCB. -/
import Derived.Test.YtclieefpnbdbjaaGreatRome34
import Derived.Test.YtclieefpnbdbjaaGreatRome14
namespace Go.Proofs.YtclieefpnbdbjaaGreat.Gf
set_option linter.unusedVariables false
set_option linter.unusedSimpArgs false
open Go.RowKit
set_option maxRecDepth 100000 in
theorem mlabel_any {w : World} : Calls Tryz.prog 61 #[] w fun e w' => ∃ v, e = .returned v ∧ Rd w' v lbB ∧ FarV w v ∧ Below w.heap.size w w' := by
  have KP := spack_far (a := 0) (e := 0) (w := w.alloc (.cells #[.int .u8 76] 5)) (rd_lit [76] rfl rfl (by decide))
  rw [(pa_ok lb_ok).1, (pa_ok lb_ok).2] at KP
  replace KP : Calls Tryz.prog 112 #[.int .i64 0, .int .i64 0, .slice (some ⟨w.heap.size, 0, none⟩) 1 1] (w.alloc (.cells #[.int .u8 76] 5)) (MakesSF (w.alloc (.cells #[.int .u8 76] 5)) 0 lbB) := KP
  go_enter Tryz.func61, Tryz.ntmps61
  go_wp2_with fail
  refine KP.mono ?_
  rintro _ w1 ⟨v, rfl, R1, F1, B1⟩
  have FIN : Hid (Rd w1 v lbB ∧ FarV w v ∧ Below w.heap.size w w1) := ⟨R1, fun x n c e => (F1 x n c e).imp id fun q => by simp at q; omega, (belR _ _).step16 B1 (by simp)⟩
  obtain ⟨va, vc, ev⟩ := R1.form
  subst ev
  clear KP R1 F1 B1
  go_wp2
  exact bodyPost_ret (v := .slice va lbB.length vc) (by simp [results, Tryz.results61, go_sem]) rfl ⟨_, rfl, FIN.out⟩
/-- a list of integers that lies apart from what may turn -/
theorem rdI_spot18 {G : Nat → Prop} {w : World} {a : Option Addr} {n c : Nat} {l : List Int} (hd : ∀ W, TurnG G w W → RdI W (.slice a n c) l) {r : Nat} (hr : r < l.length) : ∃ b off, a = some ⟨b, off, none⟩ ∧ ∀ W, TurnG G w W → W.cell? ⟨b, off + r, none⟩ = some (.int .i64 (l.getD r 0)) := by
  obtain ⟨b, off, rfl, _, _⟩ := (hd w (TurnG.refl _ _)).at hr
  refine ⟨b, off, rfl, fun W t => ?_⟩
  obtain ⟨b', off', e, _, h⟩ := (hd W t).at hr
  simp at e
  obtain ⟨rfl, rfl⟩ := e
  exact h
set_option maxRecDepth 100000 in
set_option maxHeartbeats 4000000 in
theorem mlabelA_any {w : World} {ab : Nat} {GA : Nat → Prop} {a : ArS} (h : ArAt w ab GA a) {dv : Value} {l : List Int} (hd : ∀ W, TurnG GA w W → RdI W dv l) (hl : l.length ≤ 1000000) (hw : ∀ i, i < l.length → (Lit.int .i64 (l.getD i 0)).wf = true) :
    Calls Tryz.prog 29 #[.pointer (some ⟨ab, 0, none⟩), dv] w (LeavesA w ab GA (lbS a l) (.int .i64 (lbX a l))) := by
  obtain ⟨da, dc, ed⟩ := (hd w (TurnG.refl _ _)).form
  subst ed
  have HD : Hid (∀ W, TurnG GA w W → RdI W (.slice da l.length dc) l) := hd
  have HA : Hid (ArAt w ab GA a) := h
  have HW : Hid (∀ i, i < l.length → (Lit.int .i64 (l.getD i 0)).wf = true) := hw
  obtain ⟨n, hn⟩ : ∃ n, Hid (n = l.length) := ⟨_, rfl⟩
  rw [← hn.out] at hl HD HW ⊢
  clear hd h hw
  go_enter Tryz.func29, Tryz.ntmps29
  go_wp2_with fail
  go_loopw [11] (fun i wr => ∃ (r : Nat) (GB : Nat → Prop), r ≤ n ∧ i = .int .i64 (r : Int) ∧ ArAt wr ab GB (lbV a l r).st ∧ Hid (Grew GA w GB wr) ∧ Hid ((lbV a l r).cr = false)) (fun i _ => n - (intOf i).toNat)
  case atStart => exact ⟨0, GA, Nat.zero_le _, rfl, HA.out, Grew.refl _ _, rfl⟩
  case round =>
    obtain ⟨r, GB, hr, rfl, hRA, hT, hcr⟩ := hrel
    by_cases hlt : r < n
    · have hlt' : (r : Int) < (n : Int) := by omega
      obtain ⟨b, off, rfl, hc⟩ := rdI_spot18 HD.out (r := r) (by rw [← hn.out]; exact hlt)
      have wz := HW.out r hlt
      obtain ⟨z, hz⟩ : ∃ z, Hid (z = l.getD r 0) := ⟨_, rfl⟩
      rw [← hz.out] at hc wz
      obtain ⟨x, hx⟩ : ∃ x, Hid (x = wrAX (lbV a l r).st z 0 lbB) := ⟨_, rfl⟩
      have s0 := hc wr hT.out.turn
      have KW : Hid (∀ W1 v, Below wr.heap.size wr W1 → Rd W1 v lbB → Calls Tryz.prog 81 #[.pointer (some ⟨ab, 0, none⟩), .int .i64 z, .int .i64 0, v] W1 (LeavesA W1 ab GB (wrAS (lbV a l r).st z 0 lbB) (.int .i64 x))) := fun W1 v b R => by
        rw [hx.out]
        exact awrite_any (hRA.below b) wz (by decide) R
      clear hc wz
      go_wp2_with fail
      refine mlabel_any.mono ?_
      rintro _ w1 ⟨v, rfl, R1, F1, B1⟩
      have K := KW.out w1 v B1 R1
      obtain ⟨va, vc, ev⟩ := R1.form
      subst ev
      go_wp2_with fail
      refine K.mono ?_
      rintro _ w2 ⟨rfl, GC, A2, g2⟩
      have T02 : Hid (Grew GA w GC w2) := (hT.out.trans (Grew.of_below B1)).trans g2
      by_cases q : x = 130
      · have E := lb_cr (l := l) (r := r) (n := l.length) hcr.out (by rw [← hz.out, ← hx.out]; exact q) (by rw [← hn.out]; exact hlt)
        have F : Hid (LeavesA w ab GA (lbS a l) (.int .i64 (lbX a l)) (.returned (.int .i64 x)) w2) := by
          show LeavesA _ _ _ _ _ _ _
          unfold lbS lbX
          rw [E, q]
          refine ⟨rfl, GC, ?_, T02.out⟩
          have : wrAS (lbV a l r).st z 0 lbB = (lbV a l r).st := if_pos (wrAX_crash.1 (by rw [← hx.out]; exact q))
          rw [this] at A2
          exact A2
        subst q
        clear A2 g2 T02 s0 KW K R1 F1 B1 hRA E hT hcr hx
        go_wp2
        exact bodyPost_ret (v := .int .i64 130) (by simp [results, Tryz.results29, go_sem]) rfl F.out
      · have q' : (x == 130) = false := beq_eq_false_iff_ne.2 q
        have E := lb_go (l := l) (r := r) hcr.out (by rw [← hz.out, ← hx.out]; exact q)
        rw [← hz.out] at E
        have RA : Hid (ArAt w2 ab GC (lbV a l (r + 1)).st) := by show ArAt _ _ _ _; rw [E]; exact A2
        have CN : Hid ((lbV a l (r + 1)).cr = false) := by show _ = _; rw [E]
        clear A2 g2 s0 KW K R1 F1 B1 hRA E hT hcr hx
        go_wp2
        go_roundw
        case rel => exact ⟨r + 1, GC, by omega, by go_num, RA.out, T02, CN⟩
        case measure => simp [intOf]; omega
    · obtain rfl : r = n := by omega
      have hge : ¬ (r : Int) < (r : Int) := by omega
      have KF := aflush_any hRA
      have E : Hid (lbX a l = flAX (lbV a l r).st ∧ lbS a l = flAS (lbV a l r).st) := by
        unfold lbX lbS
        rw [← hn.out, hcr.out]
        exact ⟨rfl, rfl⟩
      obtain ⟨x, hx⟩ : ∃ x, Hid (x = flAX (lbV a l r).st) := ⟨_, rfl⟩
      rw [← hx.out] at KF
      clear hRA
      go_wp2_with fail
      refine KF.mono ?_
      rintro _ w2 ⟨rfl, GC, A2, T2⟩
      have F : Hid (LeavesA w ab GA (lbS a l) (.int .i64 (lbX a l)) (.returned (.int .i64 x)) w2) := by
        show LeavesA _ _ _ _ _ _ _
        rw [E.out.1, E.out.2, hx.out]
        exact ⟨rfl, GC, A2, hT.out.trans T2⟩
      clear KF A2 T2
      go_wp2
      exact bodyPost_ret (v := .int .i64 x) (by simp [results, Tryz.results29, go_sem]) rfl F.out
/-- who knows, and an error -/
def KnowsM (w : World) (X : Int) (L : List Bool) (e : Ending) (w' : World) : Prop := ∃ v, e = .returned (.tuple #[v, .int .i64 X]) ∧ RdB w' v L ∧ FarV w v ∧ Below w.heap.size w w'
theorem km_off {a : ArS} (h : a.off = true) : knX a = 130 ∧ knL a = [] := ⟨if_pos h, if_pos h⟩
theorem km_on {a : ArS} (h : a.off = false) : knX a = 0 ∧ knL a = (List.range a.D.length).map (knF a) := ⟨if_neg (by rw [h]; decide), if_neg (by rw [h]; decide)⟩
theorem row_rdB18 {w : World} {g t n : Nat} {f : Nat → Bool} (h : w.rowIs g t n (fun j => .bool (f j))) (hn : n ≤ 1000) : RdB w (.slice (some ⟨g, 0, none⟩) n n) ((List.range n).map f) := by
  refine ⟨some ⟨g, 0, none⟩, n, by rw [List.length_map, List.length_range], by rw [List.length_map, List.length_range]; exact Nat.le_refl _, by unfold maxLen; omega, nofun, fun i hi => ⟨g, 0, rfl, h.lt, ?_⟩⟩
  rw [List.length_map, List.length_range] at hi
  rw [Nat.zero_add, h.cell hi]
  simp [hb, List.getD, hi]
set_option maxRecDepth 100000 in
set_option maxHeartbeats 4000000 in
theorem mknows_any {w : World} {ab : Nat} {GA : Nat → Prop} {a : ArS} (h : ArAt w ab GA a) : Calls Tryz.prog 19 #[.pointer (some ⟨ab, 0, none⟩)] w (KnowsM w (knX a) (knL a)) := by
  have d2 := h.ok.d2
  have d1 := h.ok.d1
  have HO : Hid a.Ok := h.ok
  have HA : Hid (ArAt w ab GA a) := h
  have KL := alive_any h
  obtain ⟨n, hn⟩ : ∃ n, Hid (n = a.D.length) := ⟨_, rfl⟩
  rw [← hn.out] at d1 d2 KL
  have mk1 := run_make_row' (P := Tryz.prog) 36 4 (.bool false) 1 Tryz.underlying36 info_bool13 rfl .i64 .i64 n (by omega) (by omega)
  clear h
  go_enter Tryz.func19, Tryz.ntmps19
  go_wp2_with fail
  refine KL.mono ?_
  rintro _ w1 ⟨g0, rfl, r1, s1, b1⟩
  clear KL r1 s1
  obtain ⟨u, hu⟩ : ∃ u, u = w1.alloc (Obj.cells (madeCells #[Value.bool false] n) 4) := ⟨_, rfl⟩
  have hub : Below w1.heap.size w1 u := by rw [hu]; exact belR _ _
  have hur : u.rowIs w1.heap.size 4 n (fun _ => .bool false) := by rw [hu]; exact World.rowIs_made _ _ _ _
  have mk2 := mk1 w1
  obtain ⟨g, hg⟩ : ∃ g, Hid (g = w1.heap.size) := ⟨_, rfl⟩
  rw [← hu, ← hg.out] at mk2
  rw [← hg.out] at hur
  have gl : Hid (w.heap.size ≤ g) := by show _ ≤ _; rw [hg.out]; exact b1.size
  have START : Hid (u.rowIs g 4 n (fun j => .bool (if j < 0 then knF a j else false)) ∧ Below w.heap.size w u) := ⟨hur.congr fun j _ => by rw [if_neg (by omega)], b1.step16 hub b1.size⟩
  clear mk1 hu hub hur b1
  go_wp2_with fail
  go_loopw [16] (fun i wr => ∃ r : Nat, r ≤ n ∧ i = .int .i64 (r : Int) ∧ wr.rowIs g 4 n (fun j => .bool (if j < r then knF a j else false)) ∧ Hid (Below w.heap.size w wr) ∧ Hid (0 < r → a.off = false)) (fun i _ => n - (intOf i).toNat)
  case atStart => exact ⟨0, Nat.zero_le _, rfl, START.out.1, START.out.2, fun q => by omega⟩
  case round =>
    clear START
    obtain ⟨r, hr, rfl, hR, hB, hOf⟩ := hrel
    by_cases hlt : r < n
    · have hlt' : (r : Int) < (n : Int) := by omega
      have KR := aread_any (HA.out.below hB.out) (i := (r : Int)) (ad := 0) (WalkArith.wf_i64 (by omega)) (by decide)
      obtain ⟨x, hx⟩ : ∃ x, Hid (x = rdAX a (r : Int) 0) := ⟨_, rfl⟩
      obtain ⟨p, hp⟩ : ∃ p, Hid (p = rdAB a (r : Int) 0) := ⟨_, rfl⟩
      have lp : p.length ≤ 100000 := by rw [hp.out]; exact Nat.le_trans (rdB_le HO.out _ _) (by decide)
      rw [← hx.out, ← hp.out] at KR
      go_wp2_with fail
      refine KR.mono ?_
      rintro _ w1 ⟨v, rfl, O1, B1⟩
      have R1 : Rd w1 v p := Rd.owned O1
      obtain ⟨va, vc, ev⟩ := R1.form
      subst ev
      have B01 := hB.out.step16 B1 hB.out.size
      clear KR O1
      by_cases q : x = 130
      · have F : Hid (KnowsM w (knX a) (knL a) (.returned (.tuple #[.slice none 0 0, .int .i64 x])) w1) := by
          have ho : a.off = true := by
            cases ho : a.off with
            | true => rfl
            | false => exact absurd (hx.out.symm.trans q) (rdAX_up ho)
          show KnowsM _ _ _ _ _
          rw [(km_off ho).1, (km_off ho).2, q]
          exact ⟨_, rfl, rdB_none, FarV.nil _ _ _, B01⟩
        subst q
        clear hR hB B1 B01 R1 hx
        go_wp2
        exact bodyPost_ret (v := .tuple #[.slice none 0 0, .int .i64 130]) (by simp [results, Tryz.results19, go_sem]) rfl F.out
      · have q' : (x == 130) = false := beq_eq_false_iff_ne.2 q
        go_wp2_with fail
        refine mlabel_any.mono ?_
        rintro _ w2 ⟨u, rfl, R2, F2, B2⟩
        have KS := beq_any (R1.below B2) R2
        obtain ⟨ua, uc, eu⟩ := R2.form
        subst eu
        obtain ⟨y, hy⟩ : ∃ y, Hid (y = sameB p lbB) := ⟨_, rfl⟩
        rw [← hy.out] at KS
        have B02 := B01.step16 B2 B01.size
        have B12 := B1.step16 B2 B1.size
        have EY : Hid (y = knF a r) := by
          show y = _
          have e2 : (rdAB a (r : Int) 0 == lbB) = decide (rdAB a (r : Int) 0 = lbB) := by by_cases q : rdAB a (r : Int) 0 = lbB <;> simp [q]
          unfold knF
          rw [hy.out, hp.out, e2]
          unfold sameB
          by_cases q0 : rdAB a (r : Int) 0 = lbB
          · have hf : rdAX a (r : Int) 0 = 0 := by
              have hne : rdAB a (r : Int) 0 ≠ [] := fun k => by rw [k] at q0; have := congrArg List.length q0; rw [show lbB = pkS 0 0 [76] from rfl, pk_length] at this; simp at this
              unfold rdAB at hne
              unfold rdAX
              by_cases ho : a.off = true
              · rw [if_pos ho] at hne; exact absurd rfl hne
              · rw [if_neg ho] at hne ⊢
                by_cases ht : thA a (r : Int)
                · rw [if_pos ht] at hne ⊢
                  unfold rdB at hne
                  by_cases k : faX (diA a (r : Int)) 0 = 0
                  · exact k
                  · rw [if_neg k] at hne; exact absurd rfl hne
                · rw [if_neg ht] at hne; exact absurd rfl hne
            rw [decide_eq_true hf, decide_eq_true q0]; rfl
          · rw [decide_eq_false q0, Bool.and_false]
        have OFF : Hid (0 < r + 1 → a.off = false) := fun _ => by
          cases ho : a.off with
          | false => rfl
          | true => exact absurd (hx.out.trans (if_pos ho)) q
        have hR2 := hR.of_block (B12.block g hR.lt)
        clear R1 R2 F2 B1 B2 B12 B01 hR hB hx hp hy
        go_wp2_with fail
        refine KS.mono ?_
        rintro _ w3 ⟨rfl, rfl⟩
        have cq := hR2.cell hlt
        have fq := hR2.frozen r
        have R3 := hR2.set r (.bool y)
        have E2 : Hid ((w3.setCell ⟨g, r, none⟩ (.bool y)).rowIs g 4 n (fun j => .bool (if j < r + 1 then knF a j else false))) := R3.congr fun j hj => by
          by_cases e : j = r
          · rw [if_pos e, if_pos (by omega), e, EY.out]
          · rw [if_neg e]
            by_cases e2 : j < r
            · rw [if_pos e2, if_pos (by omega)]
            · rw [if_neg e2, if_neg (by omega)]
        have B3 : Hid (Below w.heap.size w (w3.setCell ⟨g, r, none⟩ (.bool y))) := B02.setCell gl.out _
        clear KS R3 hR2 B02 EY
        go_wp2
        go_roundw
        case rel => exact ⟨r + 1, by omega, by go_num, E2.out, B3, OFF⟩
        case measure => simp [intOf]; omega
    · obtain rfl : r = n := by omega
      have hge : ¬ (r : Int) < (r : Int) := by omega
      cases ho : a.off with
      | true => exact absurd (hOf.out (by omega)) (by rw [ho]; decide)
      | false =>
        have F : Hid (KnowsM w (knX a) (knL a) (.returned (.tuple #[.slice (some ⟨g, 0, none⟩) r r, .int .i64 0])) wr) := by
          show KnowsM _ _ _ _ _
          rw [(km_on ho).1, (km_on ho).2, ← hn.out]
          exact ⟨_, rfl, row_rdB18 (f := knF a) (hR.congr fun j hj => by rw [if_pos hj]) (by omega), fun x m c e => Or.inr (by simp at e; obtain ⟨rfl, _⟩ := e; exact gl.out), hB.out⟩
        clear hR hB
        go_wp2
        exact bodyPost_ret (v := .tuple #[.slice (some ⟨g, 0, none⟩) r r, .int .i64 0]) (by simp [results, Tryz.results19, go_sem]) rfl F.out
end Go.Proofs.YtclieefpnbdbjaaGreat.Gf

namespace Go.Proofs.YtclieefpnbdbjaaGreat.Gf
set_option linter.unusedVariables false
set_option linter.unusedSimpArgs false
open Go.RowKit
/-- the first error of those that are told -/
def fiE : List Int → Int
  | [] => 0
  | x :: l => if x = 0 then fiE l else x
theorem fi_go : ∀ {l : List Int} {r : Nat}, (∀ i, i < r → l.getD i 0 = 0) → r < l.length → ¬ l.getD r 0 = 0 → fiE l = l.getD r 0
  | [], r, _, hr, _ => by simp at hr
  | x :: l, 0, _, _, hx => if_neg hx
  | x :: l, r + 1, h, hr, hx => by
    have h0 : x = 0 := h 0 (by omega)
    unfold fiE
    rw [if_pos h0]
    exact fi_go (l := l) (r := r) (fun i hi => h (i + 1) (by omega)) (by simpa using hr) hx
theorem fi_end : ∀ {l : List Int}, (∀ i, i < l.length → l.getD i 0 = 0) → fiE l = 0
  | [], _ => rfl
  | x :: l, h => by
    have h0 : x = 0 := h 0 (by simp)
    unfold fiE
    rw [if_pos h0]
    exact fi_end fun i hi => h (i + 1) (by simpa using hi)
set_option maxRecDepth 100000 in
theorem mfirst_any {w : World} {a : Option Addr} {n c : Nat} {l : List Int} (h : RdI w (.slice a n c) l) (hn : l.length = n) (hl : n ≤ 1000) {x : Int} (hx : fiE l = x) : Calls Tryz.prog 67 #[.slice a n c] w fun e w' => e = .returned (.int .i64 x) ∧ Below w.heap.size w w' := by
  have HN : Hid (l.length = n) := hn
  have HX : Hid (fiE l = x) := hx
  clear hx hn
  go_enter Tryz.func67, Tryz.ntmps67
  go_wp2_with fail
  go_loopw [7] (fun i wr => ∃ r : Nat, r ≤ n ∧ i = .int .i64 (r : Int) ∧ Hid (∀ j, j < r → l.getD j 0 = 0) ∧ Hid (Below w.heap.size w wr)) (fun i _ => n - (intOf i).toNat)
  case atStart => exact ⟨0, Nat.zero_le _, rfl, fun j hj => by omega, Below.refl _ _⟩
  case round =>
    obtain ⟨r, hr, rfl, h0, hB⟩ := hrel
    by_cases hlt : r < n
    · have hlt' : (r : Int) < (n : Int) := by omega
      have hr2 : r < l.length := by rw [HN.out]; exact hlt
      obtain ⟨b, off, rfl, _, hc⟩ := (h.below hB.out).at hr2
      obtain ⟨z, hz⟩ : ∃ z, Hid (z = l.getD r 0) := ⟨_, rfl⟩
      rw [← hz.out] at hc
      by_cases q : z = 0
      · have N1 : Hid (∀ j, j < r + 1 → l.getD j 0 = 0) := fun j hj => by
          by_cases e : j = r
          · rw [e, ← hz.out]; exact q
          · exact h0.out j (by omega)
        subst q
        clear hz h0 h hr2
        go_wp2
        go_roundw
        case rel => exact ⟨r + 1, by omega, by go_num, N1, hB.out⟩
        case measure => simp [intOf]; omega
      · have q' : (z == 0) = false := beq_eq_false_iff_ne.2 q
        have q2 : (z != 0) = true := by simp [bne, q']
        have F : Hid (x = z ∧ Below w.heap.size w wr) := ⟨by rw [← HX.out, fi_go h0.out hr2 (by rw [← hz.out]; exact q), hz.out], hB.out⟩
        clear hz h0 h hr2 HX hB
        go_wp2
        exact bodyPost_ret (v := .int .i64 z) (by simp [results, Tryz.results67, go_sem]) rfl ⟨by rw [F.out.1], F.out.2⟩
    · obtain rfl : r = n := by omega
      have hge : ¬ (r : Int) < (r : Int) := by omega
      have F : Hid (x = 0 ∧ Below w.heap.size w wr) := ⟨by rw [← HX.out, fi_end (fun i hi => h0.out i (by rw [HN.out] at hi; exact hi))], hB.out⟩
      clear h0 h HX hB
      go_wp2
      exact bodyPost_ret (v := .int .i64 0) (by simp [results, Tryz.results67, go_sem]) rfl ⟨by rw [F.out.1], F.out.2⟩
theorem mfirst2 {w : World} {x y : Int} (e : Nat) {z : Int} (hz : fiE [x, y] = z) : Calls Tryz.prog 67 #[.slice (some ⟨w.heap.size, 0, none⟩) 2 2] (w.alloc (.cells #[.int .i64 x, .int .i64 y] e)) fun e w' => e = .returned (.int .i64 z) ∧ Below w.heap.size w w' :=
  (mfirst_any (rdI_lit2 [x, y] rfl rfl rfl (by simp)) rfl (by simp) hz).mono fun _ _ h => ⟨h.1, (belR _ _).step16 h.2 (by simp)⟩
theorem mfirst3 {w : World} {x y u : Int} (e : Nat) {z : Int} (hz : fiE [x, y, u] = z) : Calls Tryz.prog 67 #[.slice (some ⟨w.heap.size, 0, none⟩) 3 3] (w.alloc (.cells #[.int .i64 x, .int .i64 y, .int .i64 u] e)) fun e w' => e = .returned (.int .i64 z) ∧ Below w.heap.size w w' :=
  (mfirst_any (rdI_lit2 [x, y, u] rfl rfl rfl (by simp)) rfl (by simp) hz).mono fun _ _ h => ⟨h.1, (belR _ _).step16 h.2 (by simp)⟩
theorem mfirst4 {w : World} {x y u v : Int} (e : Nat) {z : Int} (hz : fiE [x, y, u, v] = z) : Calls Tryz.prog 67 #[.slice (some ⟨w.heap.size, 0, none⟩) 4 4] (w.alloc (.cells #[.int .i64 x, .int .i64 y, .int .i64 u, .int .i64 v] e)) fun e w' => e = .returned (.int .i64 z) ∧ Below w.heap.size w w' :=
  (mfirst_any (rdI_lit2 [x, y, u, v] rfl rfl rfl (by simp)) rfl (by simp) hz).mono fun _ _ h => ⟨h.1, (belR _ _).step16 h.2 (by simp)⟩
theorem munless_any {w : World} (b : Bool) (x : Int) : Calls Tryz.prog 66 #[.bool b, .int .i64 x] w fun e w' => e = .returned (.int .i64 (if b = true then 0 else x)) ∧ w' = w := by
  cases b with
  | true =>
    go_enter Tryz.func66, Tryz.ntmps66
    go_wp2
    exact bodyPost_ret (v := .int .i64 0) (by simp [results, Tryz.results66, go_sem]) rfl ⟨rfl, rfl⟩
  | false =>
    go_enter Tryz.func66, Tryz.ntmps66
    go_wp2
    exact bodyPost_ret (v := .int .i64 x) (by simp [results, Tryz.results66, go_sem]) rfl ⟨rfl, rfl⟩
theorem misbase_any {w : World} {n : Int} {x : Bool} (hx : decide (0 ≤ n ∧ n ≤ mo18) = x) : Calls Tryz.prog 68 #[.int .i64 n] w fun e w' => e = .returned (.bool x) ∧ w' = w := by
  unfold mo18 at hx
  have HX : Hid (decide (0 ≤ n ∧ n ≤ 2147483547) = x) := hx
  clear hx
  by_cases h1 : 0 ≤ n
  · by_cases h2 : n ≤ 2147483547
    · have E : x = true := by rw [← HX.out]; exact decide_eq_true ⟨h1, h2⟩
      subst E
      clear HX
      go_enter Tryz.func68, Tryz.ntmps68
      go_wp2
      go_ret
      exact ⟨rfl, rfl⟩
    · have E : x = false := by rw [← HX.out]; exact decide_eq_false fun q => h2 q.2
      subst E
      clear HX
      go_enter Tryz.func68, Tryz.ntmps68
      go_wp2
      go_ret
      exact ⟨rfl, rfl⟩
  · have E : x = false := by rw [← HX.out]; exact decide_eq_false fun q => h1 q.1
    subst E
    clear HX
    go_enter Tryz.func68, Tryz.ntmps68
    go_wp2
    go_ret
    exact ⟨rfl, rfl⟩
theorem mepoch_any {w : World} {b i : Int} {x : Int} (hx : b + i + 1 = x) (h : 0 ≤ b ∧ b ≤ mo18 ∧ 0 ≤ i ∧ i ≤ 1000) : Calls Tryz.prog 72 #[.int .i64 b, .int .i64 i] w fun e w' => e = .returned (.int .i64 x) ∧ w' = w := by
  unfold mo18 at h
  subst hx
  have wa : IntKind.i64.wrap (b + i) = b + i := by rw [IntKind.wrap_i64]; omega
  have wb : IntKind.i64.wrap (b + i + 1) = b + i + 1 := by rw [IntKind.wrap_i64]; omega
  go_enter Tryz.func72, Tryz.ntmps72
  go_wp2
  exact bodyPost_ret (v := .int .i64 (b + i + 1)) (by simp [results, Tryz.results72, go_sem, wa, wb]) rfl ⟨rfl, rfl⟩
set_option maxRecDepth 100000 in
set_option maxHeartbeats 1000000 in
theorem mref_any {w : World} {ab : Nat} {g : GeoS} (hg : g.Wf) {x : Int} (hx : chG g = x) : Calls Tryz.prog 62 #[.pointer (some ⟨ab, 0, none⟩), aggG g] w fun e w' => e = .returned (.int .i64 x) ∧ Below w.heap.size w w' := by
  have KC := fun V => @lcheck_any V g hg _ rfl
  have LG := geo_laid w g 23
  have EX : Hid (fiE [0, chG g] = x) := by
    show fiE [0, chG g] = x
    rw [← hx]
    unfold fiE
    rw [if_pos rfl]
    unfold fiE
    unfold chG
    split
    · rfl
    · rfl
  clear hx
  obtain ⟨y, hy⟩ : ∃ y, Hid (y = chG g) := ⟨_, rfl⟩
  rw [← hy.out] at KC EX
  clear hy
  obtain ⟨k, m, z, s, t, o⟩ := g
  rw [aggE] at KC ⊢
  obtain ⟨W0, hW⟩ : ∃ W0, W0 = w.alloc (.cells #[.int .i64 k, .int .i64 m, .int .i64 z, .int .i64 s, .int .i64 t, .int .i64 o] 23) := ⟨_, rfl⟩
  have LB : Hid (∀ V, Below W0.heap.size W0 V → GeoAt V w.heap.size ⟨k, m, z, s, t, o⟩ ∧ Below w.heap.size w V) := by rw [hW]; exact LG
  have LL : Hid (∀ V cs e, Below W0.heap.size W0 V → Below W0.heap.size W0 (V.alloc (.cells cs e))) := fun V cs e b => b.step16 (belR _ _) b.size
  clear LG
  have S2 := (LB.out W0 (Below.refl _ _)).1
  have SD := (LB.out W0.drew (Below.refl _ _).drew).1
  have BD : Below W0.heap.size W0 W0.drew := (Below.refl _ _).drew
  have KU : ∀ V, Below W0.heap.size W0 V → Calls Tryz.prog 66 #[.bool true, .int .i64 1] V fun e w' => e = .returned (.int .i64 0) ∧ Below W0.heap.size W0 w' := fun V b => (munless_any true 1).mono fun e w' h => ⟨h.1, by rw [h.2]; exact b⟩
  have KG : ∀ V, Below W0.heap.size W0 V → Calls Tryz.prog 14 #[.agg #[.int .i64 k, .int .i64 m, .int .i64 z, .int .i64 s, .int .i64 t, .int .i64 o]] V fun e w' => e = .returned (.int .i64 y) ∧ Below W0.heap.size W0 w' := fun V b => (KC V).mono fun e w' h => ⟨h.1, b.step16 h.2 b.size⟩
  have KF : ∀ V, Below W0.heap.size W0 V → Calls Tryz.prog 67 #[.slice (some ⟨V.heap.size, 0, none⟩) 2 2] (V.alloc (.cells #[.int .i64 0, .int .i64 y] 28)) fun e w' => e = .returned (.int .i64 x) ∧ Below W0.heap.size W0 w' := fun V b => (mfirst2 28 EX.out).mono fun e w' h => ⟨h.1, b.step16 h.2 b.size⟩
  clear KC
  go_enter Tryz.func62, Tryz.ntmps62
  go_wp2_with fail
  rw [← hW]
  clear hW
  go_region_held3 (fun wx => wx.cell? ⟨w.heap.size, 0, none⟩ = some (.int .i64 k) ∧ wx.cell? ⟨w.heap.size, 1, none⟩ = some (.int .i64 m) ∧ wx.cell? ⟨w.heap.size, 2, none⟩ = some (.int .i64 z) ∧ wx.cell? ⟨w.heap.size, 3, none⟩ = some (.int .i64 s) ∧ wx.cell? ⟨w.heap.size, 4, none⟩ = some (.int .i64 t) ∧ wx.cell? ⟨w.heap.size, 5, none⟩ = some (.int .i64 o)) (first | exact S2 | exact SD | exact (LB.out _ (by assumption)).1 | exact (LB.out _ (LL.out _ _ _ (by assumption))).1) (first
    | (go_at_call 66; go_loud (refine (KU _ (by assumption)).mono ?_); rintro _ vv ⟨rfl, hB⟩)
    | (go_at_call 14; go_loud (refine (KG _ (by assumption)).mono ?_); rintro _ vv ⟨rfl, hB⟩)
    | (go_at_call 67; go_loud (refine (KF _ (by assumption)).mono ?_); rintro _ vv ⟨rfl, hB⟩))
  have F := (LB.out _ (by assumption)).2
  go_wp2
  exact bodyPost_ret (v := .int .i64 x) (by simp [results, Tryz.results62, go_sem]) rfl ⟨rfl, F⟩
end Go.Proofs.YtclieefpnbdbjaaGreat.Gf
