/- TEXTS JOINED: VoRefD, VoRefE. -/
import Derived.Test.YtgahaebfgmbckaaGreatTome38
namespace Go.Proofs.YtgahaebfgmbckaaGreat.Gf
set_option linter.unusedVariables false
set_option linter.unusedSimpArgs false
open Go.RowKit
theorem RaAt.lt17 {w : World} {rb : Nat} {HR GA : Nat → Prop} {a : ArS} (h : RaAt w rb HR GA a) : ∀ k, HR k → k < w.heap.size := by
  obtain ⟨_, _, _, _, _, hI⟩ := h
  exact hI.1.lt
theorem RaAt.ok17 {w : World} {rb : Nat} {HR GA : Nat → Prop} {a : ArS} (h : RaAt w rb HR GA a) : a.Ok := by
  obtain ⟨_, _, _, _, _, hI⟩ := h
  exact hI.2
theorem RaAt.len17 {w : World} {rb : Nat} {HR GA : Nat → Prop} {a : ArS} (h : RaAt w rb HR GA a) : ∃ xb cx, w.cell? ⟨rb, 0, none⟩ = some (.slice (some ⟨xb, 0, none⟩) a.D.length cx) := by
  obtain ⟨xb, _, cx, _, _, hI⟩ := h
  exact ⟨xb, cx, hI.1.c0⟩
theorem wrAS_off {a : ArS} {i ad : Int} {b : List UInt8} (h : wrAX a i ad b = 130) : wrAS a i ad b = a := if_pos (wrAX_crash.1 h)
section
variable {a : ArS} {ad : Int} {b : List UInt8} {tO : Nat → Bool}
theorem pu_no {r : Nat} (h : tO r = false) : puV a ad b tO (r + 1) = puV a ad b tO r := by
  rw [puV]
  split
  · rfl
  · rw [if_neg (by rw [h]; decide)]
theorem pu_cr {r n : Nat} (hc : (puV a ad b tO r).cr = false) (h : tO r = true) (hx : wrAX (puV a ad b tO r).st (r : Int) ad b = 130) (hr : r < n) : puV a ad b tO n = ⟨true, (puV a ad b tO r).n, (puV a ad b tO r).st⟩ := by
  have e : puV a ad b tO (r + 1) = ⟨true, (puV a ad b tO r).n, (puV a ad b tO r).st⟩ := by
    rw [puV, if_neg (by rw [hc]; decide), if_pos h, if_pos hx]
  obtain ⟨k, rfl⟩ := Nat.exists_eq_add_of_lt hr
  have := puV_stop (a := a) (ad := ad) (b := b) (tO := tO) (r := r + 1) (by rw [e]) k
  rw [show r + k + 1 = r + 1 + k by omega, this, e]
theorem pu_go {r : Nat} (hc : (puV a ad b tO r).cr = false) (h : tO r = true) (hx : ¬ wrAX (puV a ad b tO r).st (r : Int) ad b = 130) : puV a ad b tO (r + 1) = ⟨false, (puV a ad b tO r).n + (if wrAX (puV a ad b tO r).st (r : Int) ad b = 0 then 1 else 0), wrAS (puV a ad b tO r).st (r : Int) ad b⟩ := by
  rw [puV, if_neg (by rw [hc]; decide), if_pos h, if_neg hx]
end
theorem pt_next {p : Prop} (h : p := by
  go_wp2
  go_roundw
  case rel => exact ⟨r + 1, by omega, by go_num, by rw [EN.out], RA.out, TN, CN⟩
  case measure => simp [intOf]; omega) : p := h
set_option maxRecDepth 100000 in
set_option maxHeartbeats 4000000 in
theorem rput17_any {w : World} {rb : Nat} {HR GA : Nat → Prop} {a : ArS} (h : RaAt w rb HR GA a) {ad ep : Int} {v : Value} {p : List UInt8} (hp : Rd w v p) (hpl : p.length ≤ 100000) {tv : Value} {T : List Bool} (hT : ∀ W, TurnG HR w W → RdB W tv T) (hl : a.D.length ≤ T.length) :
    Calls Tryz.prog 39 #[.pointer (some ⟨rb, 0, none⟩), .int .i64 ad, .int .i64 ep, v, tv] w (LeavesRA w rb HR GA (ppP a ad ep p (hb T)).st (.tuple #[.int .i64 (puN (ppP a ad ep p (hb T))), .int .i64 (ppX a ad ep p (hb T))])) := by
  have KP := rpack_far (a := ad) (e := ep) hp hpl
  obtain ⟨va, vc, ev⟩ := hp.form
  subst ev
  obtain ⟨ta, tc, et⟩ := (hT w (TurnG.refl _ _)).form
  subst et
  have HT : Hid (∀ W, TurnG HR w W → RdB W (.slice ta T.length tc) T) := hT
  have HA : Hid (RaAt w rb HR GA a) := h
  have d2 := h.ok17.d2
  have HL : Hid (∀ k, HR k → k < w.heap.size) := h.lt17
  by_cases ho : OkSe ad ep p.length
  rotate_left
  · have e1 : ppP a ad ep p (hb T) = ⟨false, 0, a⟩ := if_neg ho
    have e2 : ppX a ad ep p (hb T) = 1 := if_neg ho
    rw [e1, e2]
    rw [(pa_not ho).1, (pa_not ho).2] at KP
    show Calls Tryz.prog 39 _ w (LeavesRA w rb HR GA a (.tuple #[.int .i64 0, .int .i64 1]))
    clear hT h e1 e2 hp
    go_enter Tryz.func39, Tryz.ntmps39
    go_wp2_with fail
    refine KP.mono ?_
    rintro _ w1 ⟨s, rfl, R1, F1, B1⟩
    obtain ⟨sa, sc, rfl⟩ := R1.form
    clear KP R1 F1
    go_wp2
    exact bodyPost_ret (v := .tuple #[.int .i64 0, .int .i64 1]) (by simp [results, Tryz.results39, go_sem]) rfl ⟨rfl, HA.out.below B1, Below.turnG B1 HR⟩
  rw [(pa_ok ho).1, (pa_ok ho).2] at KP
  obtain ⟨b, hb0⟩ : ∃ b, Hid (b = pkS ad.toNat ep.toNat p) := ⟨_, rfl⟩
  obtain ⟨n, hn⟩ : ∃ n, Hid (n = a.D.length) := ⟨_, rfl⟩
  have e1 : ppP a ad ep p (hb T) = puV a ad b (hb T) n := by unfold ppP; rw [if_pos ho, ← hb0.out, ← hn.out]
  have e2 : ppX a ad ep p (hb T) = puE (puV a ad b (hb T) n) := by unfold ppX; rw [if_pos ho, e1]
  rw [e1, e2]
  rw [← hb0.out] at KP
  rw [← hn.out] at hl d2
  have d1 : 1 ≤ n := by rw [hn.out]; exact h.ok17.d1
  clear hT h e1 e2 hp ho hb0
  go_enter Tryz.func39, Tryz.ntmps39
  go_wp2_with fail
  refine KP.mono ?_
  rintro _ w1 ⟨s, rfl, R1, F1, B1⟩
  clear KP
  obtain ⟨sa, sc, es⟩ := R1.form
  have HS : Hid (∀ W, TurnG HR w1 W → Rd W s b) := fun W t => R1.turnG (F1.apart HL.out) t
  subst es
  clear R1 F1
  go_wp2_with fail
  go_loopw [14, 15] (fun cv i wr => ∃ r : Nat, r ≤ n ∧ i = .int .i64 (r : Int) ∧ cv = .int .i64 (((puV a ad b (hb T) r).n : Nat) : Int) ∧ RaAt wr rb HR GA (puV a ad b (hb T) r).st ∧ Hid (TurnG HR w1 wr) ∧ Hid ((puV a ad b (hb T) r).cr = false)) (fun _ i _ => n - (intOf i).toNat)
  case atStart => exact ⟨0, Nat.zero_le _, rfl, rfl, HA.out.below B1, TurnG.refl _ _, rfl⟩
  case round =>
    obtain ⟨r, hr, rfl, rfl, hRA, hTu, hcr⟩ := hrel
    have nl : (puV a ad b (hb T) r).n ≤ r := puV_le r
    obtain ⟨xb, cx, c0⟩ := hRA.len17
    rw [puV_len, ← hn.out] at c0
    have TW := (Below.turnG B1 HR).trans hTu.out
    by_cases hlt : r < n
    · have hlt' : (r : Int) < (n : Int) := by omega
      obtain ⟨tb, tO, et, lt, tc0⟩ := (HT.out wr TW).at (i := r) (by omega)
      subst et
      have rT : (r : Int) < (T.length : Int) := by omega
      have rT' : r < T.length := by omega
      obtain ⟨x, hx⟩ : ∃ x, Hid (x = hb T r) := ⟨_, rfl⟩
      rw [← hx.out] at tc0
      cases x with
      | false =>
        have E := pu_no (a := a) (ad := ad) (b := b) hx.out.symm
        have EN : Hid ((puV a ad b (hb T) (r + 1)).n = (puV a ad b (hb T) r).n) := by show _ = _; rw [E]
        have RA : Hid (RaAt wr rb HR GA (puV a ad b (hb T) (r + 1)).st) := by show RaAt _ _ _ _ _; rw [E]; exact hRA
        have CN : Hid ((puV a ad b (hb T) (r + 1)).cr = false) := by show _ = _; rw [E]; exact hcr.out
        have TN := hTu
        clear hRA TW E hcr
        exact pt_next
      | true =>
        have KW := rwriteA_any hRA (i := (r : Int)) (ad := ad) (HS.out wr hTu.out)
        obtain ⟨f, hf⟩ : ∃ f, Hid (f = wrAX (puV a ad b (hb T) r).st (r : Int) ad b) := ⟨_, rfl⟩
        rw [← hf.out] at KW
        go_wp2_with fail
        refine KW.mono ?_
        rintro _ w3 ⟨rfl, R3, T3⟩
        clear KW
        have T13 := hTu.out.trans T3
        by_cases q1 : f = 130
        · have q1' : wrAX (puV a ad b (hb T) r).st (r : Int) ad b = 130 := by rw [← hf.out]; exact q1
          have E := pu_cr hcr.out hx.out.symm q1' hlt
          have FIN : Hid (LeavesRA w rb HR GA (puV a ad b (hb T) n).st (.tuple #[.int .i64 (puN (puV a ad b (hb T) n)), .int .i64 (puE (puV a ad b (hb T) n))]) (.returned (.tuple #[.int .i64 0, .int .i64 130])) w3) := by
            show LeavesRA _ _ _ _ _ _ _ _
            rw [E]
            refine ⟨rfl, ?_, (Below.turnG B1 HR).trans T13⟩
            rw [wrAS_off q1'] at R3
            exact R3
          subst q1
          clear R3 T3 T13 hRA TW E hcr hf
          go_wp2
          exact bodyPost_ret (v := .tuple #[.int .i64 0, .int .i64 130]) (by simp [results, Tryz.results39, go_sem]) rfl FIN.out
        · have E := pu_go (a := a) (ad := ad) (b := b) hcr.out hx.out.symm (by rw [← hf.out]; exact q1)
          have RA : Hid (RaAt w3 rb HR GA (puV a ad b (hb T) (r + 1)).st) := by show RaAt _ _ _ _ _; rw [E]; exact R3
          have CN : Hid ((puV a ad b (hb T) (r + 1)).cr = false) := by show _ = _; rw [E]
          have TN : Hid (TurnG HR w1 w3) := T13
          have q1' : (f == 130) = false := beq_eq_false_iff_ne.2 q1
          by_cases q2 : f = 0
          · have EN : Hid ((puV a ad b (hb T) (r + 1)).n = (puV a ad b (hb T) r).n + 1) := by show _ = _; rw [E, ← hf.out, if_pos q2]
            subst q2
            clear R3 T3 T13 hRA TW E hcr hf
            go_wp2
            go_roundw
            case rel => exact ⟨r + 1, by omega, by go_num, by rw [EN.out]; go_num, RA.out, TN, CN⟩
            case measure => simp [intOf]; omega
          · have EN : Hid ((puV a ad b (hb T) (r + 1)).n = (puV a ad b (hb T) r).n) := by show _ = _; rw [E, ← hf.out, if_neg q2]; rfl
            have q2' : (f == 0) = false := beq_eq_false_iff_ne.2 q2
            clear R3 T3 T13 hRA TW E hcr hf
            exact pt_next
    · obtain rfl : r = n := by omega
      have hge : ¬ (r : Int) < (r : Int) := by omega
      have FIN : Hid (LeavesRA w rb HR GA (puV a ad b (hb T) r).st (.tuple #[.int .i64 (puN (puV a ad b (hb T) r)), .int .i64 (puE (puV a ad b (hb T) r))]) (.returned (.tuple #[.int .i64 (((puV a ad b (hb T) r).n : Nat) : Int), .int .i64 0])) wr) := by
        refine ⟨?_, hRA, TW⟩
        unfold puN puE
        rw [hcr.out]
        rfl
      clear hRA TW hcr
      go_wp2
      exact bodyPost_ret (v := .tuple #[.int .i64 (((puV a ad b (hb T) r).n : Nat) : Int), .int .i64 0]) (by simp [results, Tryz.results39, go_sem]) rfl FIN.out
end Go.Proofs.YtgahaebfgmbckaaGreat.Gf

namespace Go.Proofs.YtgahaebfgmbckaaGreat.Gf
set_option linter.unusedVariables false
set_option linter.unusedSimpArgs false
open Go.RowKit
theorem info_bool17 : (Tryz.prog.info? 4).map (fun i => (i.zero, i.size, i.bytes)) = some (some (.bool false), 1, 1) := by kernel_rfl
theorem row_rdB {w : World} {g t n : Nat} {F : Nat → Bool} (h : w.rowIs g t n (fun i => .bool (F i))) (hn : n ≤ 1000000) : RdB w (.slice (some ⟨g, 0, none⟩) n n) ((List.range n).map F) := by
  have hl : ((List.range n).map F).length = n := by simp
  refine ⟨some ⟨g, 0, none⟩, n, by rw [hl], by rw [hl]; exact Nat.le_refl _, by unfold maxLen; omega, nofun, fun i hi => ?_⟩
  rw [hl] at hi
  refine ⟨g, 0, rfl, h.lt, ?_⟩
  rw [Nat.zero_add, h.cell hi]
  simp [hb, List.getD, hi]
theorem hb_range {n : Nat} {F : Nat → Bool} {i : Nat} (h : i < n) : hb ((List.range n).map F) i = F i := by simp [hb, List.getD, h]
set_option maxRecDepth 100000 in
set_option maxHeartbeats 4000000 in
theorem rwrite17_any {w : World} {rb : Nat} {HR GA : Nat → Prop} {a : ArS} (h : RaAt w rb HR GA a) {ad ep : Int} {v : Value} {p : List UInt8} (hp : Rd w v p) (hpl : p.length ≤ 100000) :
    Calls Tryz.prog 16 #[.pointer (some ⟨rb, 0, none⟩), .int .i64 ad, .int .i64 ep, v] w (LeavesRA w rb HR GA (wvS a ad ep p) (.tuple #[.int .i64 (wvN a ad ep p), .int .i64 (wvX a ad ep p)])) := by
  obtain ⟨xb, cx, c0⟩ := h.len17
  have d2 := h.ok17.d2
  have lr : rb < w.heap.size := by obtain ⟨_, _, _, _, _, hI⟩ := h; exact hI.1.lt _ hI.1.hr
  have HA : Hid (RaAt w rb HR GA a) := h
  have HP : Hid (Rd w v p) := hp
  obtain ⟨va, vc, ev⟩ := hp.form
  subst ev
  obtain ⟨n, hn⟩ : ∃ n, Hid (n = a.D.length) := ⟨_, rfl⟩
  rw [← hn.out] at c0 d2
  have mk1 := run_make_row' (P := Tryz.prog) 33 4 (.bool false) 1 Tryz.underlying33 info_bool17 rfl .i64 .i64 n (by omega) (by omega) w
  obtain ⟨u, hu⟩ : ∃ u, u = w.alloc (Obj.cells (madeCells #[Value.bool false] n) 4) := ⟨_, rfl⟩
  have hub : Below w.heap.size w u := by rw [hu]; exact belR _ _
  have hur : u.rowIs w.heap.size 4 n (fun _ => .bool false) := by rw [hu]; exact World.rowIs_made _ _ _ _
  obtain ⟨g, hg⟩ : ∃ g, Hid (g = w.heap.size) := ⟨_, rfl⟩
  rw [← hu, ← hg.out] at mk1
  rw [← hg.out] at hur
  have ng : Hid (¬ HR g) := fun k => by have := h.lt17 g k; have := hg.out; omega
  clear hu h hp
  go_enter Tryz.func16, Tryz.ntmps16
  go_wp2_with fail
  have START : Hid (u.rowIs g 4 n (fun j => .bool (decide (j < 0))) ∧ Below w.heap.size w u) := ⟨hur.congr fun j _ => by rw [decide_eq_false (by omega)], hub⟩
  clear mk1 hub hur
  go_loopw [11] (fun i wr => ∃ k : Nat, k ≤ n ∧ i = .int .i64 (k : Int) ∧ wr.rowIs g 4 n (fun j => .bool (decide (j < k))) ∧ Hid (Below w.heap.size w wr)) (fun i _ => n - (intOf i).toNat)
  case atStart => exact ⟨0, Nat.zero_le _, rfl, START.out.1, START.out.2⟩
  case round =>
    clear START
    obtain ⟨k, hk, rfl, hr, hB⟩ := hrel
    by_cases hlt : k < n
    · have hlt' : (k : Int) < (n : Int) := by omega
      have cq := hr.cell hlt
      have fq := hr.frozen k
      have R3 := hr.set k (.bool true)
      have E2 : Hid ((wr.setCell ⟨g, k, none⟩ (.bool true)).rowIs g 4 n (fun j => .bool (decide (j < k + 1)))) := R3.congr fun j hj => by
        by_cases e : j = k
        · rw [if_pos e, decide_eq_true (by omega)]
        · rw [if_neg e]
          by_cases e2 : j < k
          · rw [decide_eq_true e2, decide_eq_true (by omega)]
          · rw [decide_eq_false e2, decide_eq_false (by omega)]
      have B2 : Hid (Below w.heap.size w (wr.setCell ⟨g, k, none⟩ (.bool true))) := hB.out.setCell (by rw [hg.out]; exact Nat.le_refl _) _
      clear R3 hr hB
      go_wp2
      go_roundw
      case rel => exact ⟨k + 1, by omega, by go_num, E2.out, B2⟩
      case measure => simp [intOf]; omega
    · obtain rfl : k = n := by omega
      have hge : ¬ (k : Int) < (k : Int) := by omega
      have hT : ∀ W, TurnG HR wr W → RdB W (.slice (some ⟨g, 0, none⟩) k k) ((List.range k).map fun j => decide (j < k)) := fun W t => row_rdB (hr.of_block (t.block g hr.lt ng.out)) (by omega)
      have K := rput17_any (HA.out.below hB.out) (ad := ad) (ep := ep) (HP.out.below hB.out) hpl hT (by rw [← hn.out]; simp)
      have eP : ppP a ad ep p (hb ((List.range k).map fun j => decide (j < k))) = wvP a ad ep p := by
        unfold ppP wvP
        split
        · exact puV_congr (n := a.D.length) (fun i hi => by rw [hb_range (by rw [hn.out]; exact hi)]; exact decide_eq_true (by rw [hn.out]; exact hi)) _ (Nat.le_refl _)
        · rfl
      have eX : ppX a ad ep p (hb ((List.range k).map fun j => decide (j < k))) = wvX a ad ep p := by unfold ppX wvX; rw [eP]
      rw [eP, eX] at K
      have TW : Hid (TurnG HR w wr) := Below.turnG hB.out HR
      clear hT eP eX hr hB
      go_wp2_with fail
      refine K.mono ?_
      rintro _ w3 ⟨rfl, R3, T3⟩
      have FIN : Hid (LeavesRA w rb HR GA (wvS a ad ep p) (.tuple #[.int .i64 (wvN a ad ep p), .int .i64 (wvX a ad ep p)]) (.returned (.tuple #[.int .i64 (wvN a ad ep p), .int .i64 (wvX a ad ep p)])) w3) := ⟨rfl, R3, TW.out.trans T3⟩
      rw [show puN (wvP a ad ep p) = wvN a ad ep p from rfl]
      clear K R3 T3
      go_wp2
      exact bodyPost_ret (v := .tuple #[.int .i64 (wvN a ad ep p), .int .i64 (wvX a ad ep p)]) (by simp [results, Tryz.results16, go_sem]) rfl FIN.out
/-- Read's answer: a vote, an error -/
def TellsV (w : World) (X : Int) (V : VoS) (e : Ending) (w' : World) : Prop := ∃ vd, e = .returned (.tuple #[aggV V vd, .int .i64 X]) ∧ Rd w' vd V.da ∧ Below w.heap.size w w'
theorem rvX_up {a : ArS} (h : a.off = false) : rvX a = 0 := by unfold rvX; rw [if_neg (by rw [h]; decide)]
theorem rvV_up {a : ArS} (h : a.off = false) (K : List Bool) (ad : Int) : rvV a K ad = votS (sayL a ad) K := by unfold rvV; rw [if_neg (by rw [h]; decide)]
set_option maxRecDepth 100000 in
set_option maxHeartbeats 4000000 in
theorem rread17_any {w : World} {rb : Nat} {HR GA : Nat → Prop} {a : ArS} (h : RaAt w rb HR GA a) {ad : Int} {u : Value} {K : List Bool} (hk : RdB w u K) :
    Calls Tryz.prog 17 #[.pointer (some ⟨rb, 0, none⟩), u, .int .i64 ad] w (TellsV w (rvX a) (rvV a K ad)) := by
  obtain ⟨w0, hw0⟩ : ∃ w0, w0 = w.alloc (.cells #[.bool false, .int .i64 0, .slice none 0 0, .int .i64 0, .bool false] 45) := ⟨_, rfl⟩
  have b0 : Below w.heap.size w w0 := by rw [hw0]; exact belR _ _
  have s0 : w.heap.size < w0.heap.size := by rw [hw0]; show w.heap.size < (w.heap.push _).size; rw [Array.size_push]; exact Nat.lt_succ_self _
  have d2 := h.ok17.d2
  have CR : Hid (∀ W, Below w0.heap.size w0 W → (∀ j, W.cell? ⟨w.heap.size, j, none⟩ = #[Value.bool false, .int .i64 0, .slice none 0 0, .int .i64 0, .bool false][j]? ∧ W.frozen? ⟨w.heap.size, j, none⟩ = false)) := fun W o j => by
    refine ⟨(o.cell (p := ⟨w.heap.size, j, none⟩) s0).trans ?_, (o.frozen (p := ⟨w.heap.size, j, none⟩) s0).trans ?_⟩
    · rw [hw0]; exact World.cell?_alloc_new _ _ _ _
    · rw [hw0]; simp [go_sem]
  have KS := rsaid17_any (h.below b0) (ad := ad)
  have HK : Hid (RdB w u K) := hk
  obtain ⟨ua, uc, eu⟩ := hk.form
  subst eu
  clear h hk
  go_enter Tryz.func17, Tryz.ntmps17
  go_wp2_with fail
  rw [← hw0]
  clear hw0
  refine KS.mono ?_
  rintro _ w1 (⟨ho, rfl, b1⟩ | ⟨ho, L, v, rfl, O1, eL, b1⟩)
  · have FW := b0.step16 b1 b0.size
    have kA := CR.out w1 b1
    obtain ⟨m0, f0⟩ := kA 0
    obtain ⟨m1, f1⟩ := kA 1
    obtain ⟨m2, f2⟩ := kA 2
    obtain ⟨m3, f3⟩ := kA 3
    obtain ⟨m4, f4⟩ := kA 4
    simp at m0 m1 m2 m3 m4
    obtain ⟨W, hW⟩ : ∃ W, W = ((((w1.setCell ⟨w.heap.size, 0, none⟩ (.bool false)).setCell ⟨w.heap.size, 1, none⟩ (.int .i64 0)).setCell ⟨w.heap.size, 2, none⟩ (.slice none 0 0)).setCell ⟨w.heap.size, 3, none⟩ (.int .i64 0)).setCell ⟨w.heap.size, 4, none⟩ (.bool false) := ⟨_, rfl⟩
    obtain ⟨OA, n0, n1, n2, n3, n4⟩ := set5 m0 m1 m2 m3 m4 hW
    have FIN : Hid (TellsV w (rvX a) (rvV a K ad) (.returned (.tuple #[.agg #[.bool false, .int .i64 0, .slice none 0 0, .int .i64 0, .bool false], .int .i64 130])) W) := by
      have e1 : rvX a = 130 := if_pos ho
      have e2 : rvV a K ad = noV := if_pos ho
      show TellsV _ _ _ _ _
      rw [e1, e2]
      exact ⟨_, rfl, Or.inl ⟨none, 0, rfl, rfl, by unfold maxLen; omega, fun _ => rfl⟩, FW.trans (OA.below (Nat.le_refl _))⟩
    clear OA kA KS FW b1 CR b0
    go_wp2
    rw [← hW]
    clear hW
    exact bodyPost_ret (v := .tuple #[.agg #[.bool false, .int .i64 0, .slice none 0 0, .int .i64 0, .bool false], .int .i64 130]) (by simp [results, Tryz.results17, go_sem, n0, n1, n2, n3, n4]) rfl FIN.out
  · have FW := b0.step16 b1 b0.size
    have lL : Hid (L.length ≤ 32) := by
      have := congrArg List.length eL
      rw [sL_length, sayL_length] at this
      show _ ≤ _
      omega
    have R1 := O1.rd (by have := lL.out; omega)
    have KV := rvote17_any R1 (by have := lL.out; omega) (HK.out.below FW)
    have EL : Hid (sL L = sayL a ad) := eL
    rw [eL] at KV
    obtain ⟨la, lc, el⟩ := R1.form
    subst el
    have NA : Hid (∀ c, c ∈ L → NearV w0.heap.size w1.heap.size (.slice la L.length lc) c.vs) := O1.ap
    clear KS eL O1 R1
    go_wp2_with fail
    refine KV.mono ?_
    rintro _ w2 ⟨vd, rfl, RV, OV, b2⟩
    clear KV
    have NV0 : Hid (NearV w0.heap.size w1.heap.size (.slice la L.length lc) vd) := by
      rcases OV with rfl | ⟨c, hc, rfl⟩
      · exact fun x n c e => by cases e
      · exact NA.out c hc
    clear OV
    have b12 := b1.step16 b2 b1.size
    have FW2 := FW.step16 b2 FW.size
    have RV2 := RV.below b2
    have kA := CR.out w2 b12
    obtain ⟨V, hV⟩ : ∃ V, Hid (V = votS (sayL a ad) K) := ⟨_, rfl⟩
    rw [← hV.out] at RV2 ⊢
    have EA : Hid (rvX a = 0 ∧ rvV a K ad = V) := ⟨rvX_up ho, by rw [rvV_up ho, hV.out]⟩
    obtain ⟨vh, ve, vda, vco, vw⟩ := V
    obtain ⟨da, dc, ed⟩ := RV2.form
    simp only at ed RV2
    subst ed
    have NV := NV0
    rw [show aggV ⟨vh, ve, vda, vco, vw⟩ (.slice da vda.length dc) = .agg #[.bool vh, .int .i64 ve, .slice da vda.length dc, .int .i64 ((vco : Nat) : Int), .bool vw] from rfl]
    obtain ⟨m0, f0⟩ := kA 0
    obtain ⟨m1, f1⟩ := kA 1
    obtain ⟨m2, f2⟩ := kA 2
    obtain ⟨m3, f3⟩ := kA 3
    obtain ⟨m4, f4⟩ := kA 4
    simp at m0 m1 m2 m3 m4
    obtain ⟨W, hW⟩ : ∃ W, W = ((((w2.setCell ⟨w.heap.size, 0, none⟩ (.bool vh)).setCell ⟨w.heap.size, 1, none⟩ (.int .i64 ve)).setCell ⟨w.heap.size, 2, none⟩ (.slice da vda.length dc)).setCell ⟨w.heap.size, 3, none⟩ (.int .i64 ((vco : Nat) : Int))).setCell ⟨w.heap.size, 4, none⟩ (.bool vw) := ⟨_, rfl⟩
    obtain ⟨OA, n0, n1, n2, n3, n4⟩ := set5 m0 m1 m2 m3 m4 hW
    have FIN : Hid (TellsV w (rvX a) (rvV a K ad) (.returned (.tuple #[.agg #[.bool vh, .int .i64 ve, .slice da vda.length dc, .int .i64 ((vco : Nat) : Int), .bool vw], .int .i64 0])) W) := by
      show TellsV _ _ _ _ _
      rw [EA.out.1, EA.out.2]
      have ne : Apart w.heap.size (.slice da vda.length dc) := fun x n c e => (NV.out x n c e).imp id fun q k => by have := q.1; omega
      exact ⟨_, rfl, RV2.only ne OA, FW2.trans (OA.below (Nat.le_refl _))⟩
    clear OA kA FW b1 CR b0 RV2 RV hV NV NV0 NA
    go_wp2
    rw [← hW]
    clear hW
    exact bodyPost_ret (v := .tuple #[.agg #[.bool vh, .int .i64 ve, .slice da vda.length dc, .int .i64 ((vco : Nat) : Int), .bool vw], .int .i64 0]) (by simp [results, Tryz.results17, go_sem, n0, n1, n2, n3, n4]) rfl FIN.out
end Go.Proofs.YtgahaebfgmbckaaGreat.Gf
