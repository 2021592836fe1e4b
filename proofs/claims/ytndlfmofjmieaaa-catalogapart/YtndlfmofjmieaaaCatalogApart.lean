/- PROVED: for every geometry g and every script of calls the call CatalogApart(g, script) returns true, and its arguments read behind it as before; no conditions. -/
import Derived.ProofKit
import Derived.ShutString
import Derived.ChangeOld
import Derived.Test.YtndlfmofjmieaaaTome12
import Derived.Test.YtndlfmofjmieaaaTome13
namespace Go.Proofs.Ytndlfmofjmieaaa.catalogApart
open Go.ChangeShapes Go.WideShapes Go.ChangeAt Go.RowKit
open Go.ChangeMaps (open_string shut_string)
set_option linter.unusedVariables false

theorem own : ownKnob Try.prog.godebug = none := by kernel_rfl
theorem laidOut : laidOutB Try.prog = true := by kernel_rfl

/-- WHAT THE WALK IS TOLD OF A SLICE OF INTEGERS THAT CAME IN: it is nil; or it leads to a row of 'cap' cells, the numbers 'zs' (the first 'len' are its elements, the rest its spare room), each fitting its kind. -/
def IsRow (k : IntKind) (w : World) (a : Option Addr) (len cap : Nat) (zs : List Int) : Prop :=
  (a = none ∧ len = 0 ∧ cap = 0 ∧ zs = []) ∨
  ∃ x, a = some x ∧ len ≤ cap ∧ cap ≤ maxLen ∧ zs.length = cap ∧ (∀ i, i < zs.length → w.cell? (x.add i) = some (.int k (zs.getD i 0))) ∧ ∀ n ∈ zs, (Lit.int k n).wf = true

open Gf
set_option linter.unusedSimpArgs false
theorem allS_app (L M : List ObS) : allS (L ++ M) = allS L ++ allS M := by
  induction L with
  | nil => rfl
  | cons o l ih => show o.st ++ allS (l ++ M) = (o.st ++ allS l) ++ allS M; rw [ih, List.append_assoc]
theorem apart_row {g : GeoS} {L : List ObS} (h : InvC g L) {r : Nat} (hr : r < L.length) : allS (L.take (r + 1)) = allS (L.take r) ++ (L.getD r default).st ∧ cntO (L.take (r + 1)) = cntO (L.take r) + (L.getD r default).st.length ∧ ((L.getD r default).st.length : Int) = neG g (L.getD r default).len ∧
    ∀ q, q < (L.getD r default).st.length → 0 ≤ (L.getD r default).st.getD q 0 ∧ (L.getD r default).st.getD q 0 < g.s ∧ (L.getD r default).st.getD q 0 ∉ allS (L.take r) ++ (L.getD r default).st.take q ∧ owK L ((L.getD r default).st.getD q 0) = some (L.getD r default).ep := by
  have e0 : L.getD r default = L[r] := by simp [List.getD, hr]
  rw [e0]
  have hm : L[r] ∈ L := List.getElem_mem hr
  have e1 : allS (L.take (r + 1)) = allS (L.take r) ++ L[r].st := by
    rw [List.take_succ_eq_append_getElem hr, allS_app]
    show _ ++ (L[r].st ++ []) = _
    rw [List.append_nil]
  refine ⟨e1, ?_, (h.ok _ hm).2.1, fun q hq => ?_⟩
  · rw [← allS_length, ← allS_length, e1, List.length_append]
  · have e2 : L[r].st.getD q 0 = L[r].st[q] := by simp [List.getD, hq]
    rw [e2]
    have hs : L[r].st[q] ∈ L[r].st := List.getElem_mem hq
    refine ⟨(h.zero hm hs).1, (h.zero hm hs).2, fun hin => ?_, owK_of h.apart hm hs⟩
    have nd := allS_nodup h
    rw [← List.take_append_drop (r + 1) L, allS_app, e1] at nd
    have n2 := (List.nodup_append.1 nd).1
    obtain ⟨n3, n4, n5⟩ := List.nodup_append.1 n2
    rcases List.mem_append.1 hin with q1 | q1
    · exact n5 _ q1 _ hs rfl
    · rw [List.mem_take_iff_getElem] at q1
      obtain ⟨i, hi, e⟩ := q1
      rw [List.Nodup, List.pairwise_iff_getElem] at n4
      exact n4 i q (by omega) hq (by omega) e
theorem apart_keys {L : List ObS} (h : Rise L) {r : Nat} (hr : r + 1 < L.length) : Op.bytesLess (L.getD (r + 1) default).key (L.getD r default).key = false ∧ ((L.getD (r + 1) default).key == (L.getD r default).key) = false := by
  have e0 : L.getD (r + 1) default = L[r + 1] := by simp [List.getD, hr]
  have e1 : L.getD r default = L[r] := by simp [List.getD, show r < L.length by omega]
  rw [e0, e1]
  have k : ltK L[r].key L[r + 1].key := (List.pairwise_iff_getElem.1 h) r (r + 1) (by omega) hr (by omega)
  constructor
  · have := ltK_not k
    unfold ltK at this
    simpa using this
  · exact beq_eq_false_iff_ne.2 fun e => ltK_ne k e.symm

set_option maxRecDepth 100000 in
set_option maxHeartbeats 4000000 in
theorem walk (c0 : GeoS) (a1 : Option Addr) (len1 cap1 : Nat) (z1 : List CallK) (w : World) (w0 : c0.Wf) (w1 : RdC19 w (.slice a1 len1 cap1) z1) :
    Calls Try.prog 5 #[aggG c0, .slice a1 len1 cap1] w fun e w' => e = .returned (.bool true) ∧ Below w.heap.size w w' := by
  obtain rfl := w1.lenEq
  have HV := hidK w1
  have HG := hidK w0
  obtain ⟨cx, hcx⟩ : ∃ x, Hid (chG c0 = x) := ⟨_, rfl⟩
  have KC := fun V => @lcheck_any V c0 w0 _ hcx.out
  have HOK : Hid (cx = 0 → okG c0) := fun q => by
    by_cases k : okG c0
    · exact k
    · have h : chG c0 = 50 := if_neg k
      rw [hcx.out, q] at h
      cases h
  have T3 : Hid (∀ V, Below (w.alloc (.cells (cellsG c0) 24)).heap.size (w.alloc (.cells (cellsG c0) 24)) V → GeoAt V w.heap.size c0 ∧ Below w.heap.size w V) := geo_laid w c0 24
  clear w0 w1 hcx
  obtain ⟨gk, gm, gz, gs, gt, go⟩ := c0
  obtain ⟨W, hW⟩ : ∃ W, W = w.alloc (.cells #[.int .i64 gk, .int .i64 gm, .int .i64 gz, .int .i64 gs, .int .i64 gt, .int .i64 go] 24) := ⟨_, rfl⟩
  have T4 : Hid (∀ V, Below W.heap.size W V → GeoAt V w.heap.size ⟨gk, gm, gz, gs, gt, go⟩ ∧ Below w.heap.size w V) := by rw [hW]; exact T3
  have LWh := hidK (T4.out W (Below.refl _ _)).2.size
  rw [aggE] at KC ⊢
  clear T3
  go_enter Try.func5, Try.ntmps5
  go_wp2_with fail
  rw [← hW]
  clear hW
  refine cawake_any.mono ?_
  rintro _ u1 ⟨rfl, b1⟩
  have B1 := hidK b1
  obtain ⟨⟨y0, y1, y2, y3, y4, y5⟩, _⟩ := T4.out u1 b1
  simp only at y0 y1 y2 y3 y4 y5
  clear b1
  go_wp2_with fail
  refine (KC _).mono ?_
  clear KC y0 y1 y2 y3 y4 y5
  rintro _ u2 ⟨rfl, b2⟩
  have B2 := hidK (B1.out.stepL b2 B1.out.size)
  clear b2 B1
  have G2 := hidK (T4.out u2 B2.out).2
  obtain ⟨⟨y0, y1, y2, y3, y4, y5⟩, _⟩ := T4.out u2 B2.out
  simp only at y0 y1 y2 y3 y4 y5
  by_cases hx : cx = 0
  rotate_left
  · have n1 : (cx == 0) = false := beq_eq_false_iff_ne.2 hx
    have n2 : (cx != 0) = true := by simp [bne, n1]
    clear HOK T4 HV HG
    go_wp2
    go_ret
    exact ⟨rfl, G2.out⟩
  subst hx
  have OK := hidK (HOK.out rfl)
  clear HOK
  by_cases h40 : gs > 40
  · clear T4 HV HG
    go_wp2
    go_ret
    exact ⟨rfl, G2.out⟩
  have KD := cdone19_any HG.out OK.out (HV.out.below G2.out)
  rw [aggE] at KD
  obtain ⟨nx, hnx⟩ : ∃ f : Int → Int, Hid (∀ n, neG ⟨gk, gm, gz, gs, gt, go⟩ n = f n) := ⟨_, fun _ => rfl⟩
  clear HV
  go_wp2_with fail
  refine KD.mono ?_
  clear KD y0 y1 y2 y3 y4 y5
  rintro _ u3 ⟨cb, mb, M, rfl, C3, lc, lm, b3⟩
  have B3 := hidK (B2.out.stepL b3 B2.out.size)
  have CI := hidK C3
  clear b3 C3 lc lm G2
  obtain ⟨L, hL⟩ : ∃ L, Hid (oL M = L) := ⟨_, rfl⟩
  have INV : Hid (InvC ⟨gk, gm, gz, gs, gt, go⟩ L) := by show InvC _ _; rw [← hL.out]; exact CI.out.inv
  obtain ⟨um, hmk, hrow, bu⟩ := madeB u3 40 (by decide)
  have hmk' : (Instr.makeSlice 50 (.int .i64 40) (.int .i64 40)).run Try.prog u3 = .ok (.slice (some ⟨u3.heap.size, 0, none⟩) 40 40) um := hmk
  have CIm := hidK (CI.out.below bu)
  have Bm := hidK (B3.out.stepL bu B3.out.size)
  have K := call19_any CIm.out
  obtain ⟨ub, hub⟩ : ∃ z, Hid (z = u3.heap.size) := ⟨_, rfl⟩
  have NE : Hid ((¬ cb = ub ∧ ¬ mb = ub ∧ ∀ c ∈ M, ApartG (fun x => x = ub) c.vs) ∧ W.heap.size ≤ ub) := by
    have h1 := CI.out.lt
    have h2 := CI.out.mp.lt
    refine ⟨⟨by rw [hub.out]; omega, by rw [hub.out]; omega, fun c hc x m e ev => ?_⟩, by rw [hub.out]; exact B3.out.size⟩
    rcases (CI.out.ok c hc).rs.lays x m e ev with q | q
    · exact Or.inl q
    · exact Or.inr (by rw [hub.out]; omega)
  have KK := hidK K
  clear hmk K B3 CI
  go_wp2_with fail
  rw [← hub.out]
  clear hmk'
  refine KK.out.mono ?_
  clear KK
  rintro _ wo ⟨vl, N, rfl, oN, eN, b5⟩
  have B5 := hidK (Bm.out.stepL b5 Bm.out.size)
  have CI5 := hidK (CIm.out.below b5)
  have EN : Hid (oL N = L) := by show _ = _; rw [eN, hL.out]
  have NL : N.length ≤ 64 := by
    have h1 := CIm.out.few.2
    have h2 := congrArg List.length eN
    rw [oL_length, oL_length] at h2
    omega
  have LL : Hid (L.length = N.length) := by show _ = _; rw [← EN.out, oL_length]
  have lub : u3.heap.size < um.heap.size := hrow.lt
  have RW : Hid (wo.rowIs ub 4 40 (fun j => .bool (decide ((j : Int) ∈ allS (L.take 0))))) := by
    show World.rowIs _ _ _ _ _
    rw [hub.out]
    exact (hrow.of_block (b5.block _ lub)).congr fun i hi => by simp [allS]
  obtain ⟨oa, oc, ev, _⟩ := oN.form19'
  subst ev
  have RN := hidK (oN.rd (by omega))
  have OFN : Hid (∀ X, TurnG (fun x => x = ub) wo X → RdO X (.slice oa N.length oc) N) := fun X t => by
    rcases RN.out with h | ⟨b, off, cap, h1, h2, h3, h4, h5⟩
    · exact Or.inl h
    · have hb : um.heap.size ≤ b := by
        obtain ⟨_, ⟨e1, e2⟩ | ⟨g, cp, cur, e1, e2, _⟩⟩ := oN.row
        · rw [e1] at h2; simp at h2
        · rw [e1] at h2; simp at h2; obtain ⟨⟨rfl, _⟩, _⟩ := h2; exact e2
      have nb : ¬ b = ub := by rw [hub.out]; omega
      refine Or.inr ⟨b, off, cap, h1, h2, h3, Nat.lt_of_lt_of_le h4 t.size, fun i hi => ?_⟩
      have z := h5 i hi
      have q : ∀ j, X.cell? ⟨b, j, none⟩ = wo.cell? ⟨b, j, none⟩ := fun j => t.cell (p := ⟨b, j, none⟩) h4 nb
      have hm : N.getD i default ∈ N := by
        rw [show N.getD i default = N[i] by simp [List.getD, hi]]
        exact List.getElem_mem hi
      have ap : ApartG (fun x => x = ub) (N.getD i default).vs := fun x m c e => by
        rcases oN.ap _ hm x m c e with q | q
        · exact Or.inl q
        · exact Or.inr (by have := q.1; rw [hub.out]; omega)
      exact ⟨(q _).trans z.c0, (q _).trans z.c1, (q _).trans z.c2, (q _).trans z.c3, z.wl, z.we, z.ky, z.rs.offG ap t, z.wi⟩
  have CF : Hid (∀ X, TurnG (fun x => x = ub) wo X → CatI X cb mb ⟨gk, gm, gz, gs, gt, go⟩ M NoB) := fun X t => by
    have hc := CI5.out
    exact hc.turn t NE.out.1.1 NE.out.1.2.1 NE.out.1.2.2
  have GF : Hid (∀ X, TurnG (fun x => x = ub) wo X → (X.cell? ⟨w.heap.size, 0, none⟩ = some (.int .i64 gk) ∧ X.cell? ⟨w.heap.size, 1, none⟩ = some (.int .i64 gm) ∧ X.cell? ⟨w.heap.size, 2, none⟩ = some (.int .i64 gz) ∧ X.cell? ⟨w.heap.size, 3, none⟩ = some (.int .i64 gs) ∧ X.cell? ⟨w.heap.size, 4, none⟩ = some (.int .i64 gt) ∧ X.cell? ⟨w.heap.size, 5, none⟩ = some (.int .i64 go)) ∧ Below w.heap.size w X) := fun X t => by
    have bX : Below W.heap.size W X := B5.out.trans (t.below (fun y hy => by rw [hy]; exact NE.out.2) B5.out.size)
    obtain ⟨⟨y0, y1, y2, y3, y4, y5⟩, q⟩ := T4.out X bX
    exact ⟨⟨y0, y1, y2, y3, y4, y5⟩, q⟩
  clear RN oN eN b5 lub hrow bu NE CIm Bm CI5 T4
  go_wp2_with fail
  go_loopw [8, 10] (fun nv iv wr => ∃ (r : Nat) (A : List Int), r ≤ N.length ∧ iv = .int .i64 (r : Int) ∧ nv = .int .i64 (A.length : Int) ∧ Hid (A = allS (L.take r)) ∧ Hid (wr.rowIs ub 4 40 (fun j => .bool (decide ((j : Int) ∈ A)))) ∧ Hid (TurnG (fun x => x = ub) wo wr)) (fun _ iv _ => N.length - (intOf iv).toNat)
  case atStart => exact ⟨0, [], Nat.zero_le _, rfl, rfl, rfl, RW.out, TurnG.refl _ _⟩
  case round =>
    clear RW
    obtain ⟨r, A, hr, rfl, rfl, hA, hR, hT⟩ := hrel
    by_cases hlt : r < N.length
    · have hlt' : (r : Int) < (N.length : Int) := by omega
      obtain ⟨b, off, eb, hbw, cz⟩ := (OFN.out wr hT.out).at hlt
      subst eb
      have hrL : r < L.length := by rw [LL.out]; exact hlt
      obtain ⟨AR1, _, AR3, AR4⟩ := apart_row INV.out hrL
      have eLN : L.getD r default = (N.getD r default).o := by rw [← EN.out, oL_getD]
      rw [eLN] at AR1 AR3 AR4
      have CZ : Hid (∀ X, TurnG (fun x => x = ub) wo X → ObAt X b (off + r * 4) (N.getD r default)) := fun X t => by
        obtain ⟨b9, off9, e9, _, z9⟩ := (OFN.out X t).at hlt
        simp at e9
        obtain ⟨rfl, rfl⟩ := e9
        exact z9
      have KEYP : Hid (¬ r = 0 → ∃ kp : List UInt8, (∀ X, TurnG (fun x => x = ub) wo X → X.cell? ⟨b, off + (r - 1) * 4, none⟩ = some (.string ⟨kp.toArray⟩)) ∧ Op.bytesLess (N.getD r default).o.key kp = false ∧ ((N.getD r default).o.key == kp) = false) := fun h0 => by
        have hr1 : r - 1 < N.length := by omega
        have e1 : L.getD (r - 1) default = (N.getD (r - 1) default).o := by rw [← EN.out, oL_getD]
        have q := apart_keys INV.out.rise (r := r - 1) (by omega)
        rw [show r - 1 + 1 = r by omega, eLN, e1] at q
        refine ⟨_, fun X t => ?_, q.1, q.2⟩
        obtain ⟨b9, off9, e9, _, z9⟩ := (OFN.out X t).at hr1
        simp at e9
        obtain ⟨rfl, rfl⟩ := e9
        exact z9.c0
      have KN := fun V => @lneeds_any V ⟨gk, gm, gz, gs, gt, go⟩ HG.out _ cz.wl _ AR3.symm
      have SLl : (N.getD r default).o.st.length ≤ 256 := by
        have hm : (N.getD r default).o ∈ L := by
          rw [← eLN, show L.getD r default = L[r] by simp [List.getD, hrL]]
          exact List.getElem_mem hrL
        exact (INV.out.ok _ hm).1.1.2.2.2.2.2.1
      have AL : A.length ≤ 256 := by
        have h1 := frC_eq INV.out OK.out
        obtain ⟨_, _, _, _, _, _, h3, _⟩ := OK.out
        have h4 := allS_length L
        rw [← List.take_append_drop r L, allS_app, List.length_append, List.take_append_drop, ← hA.out] at h4
        simp only at h1 h3
        omega
      rw [aggE] at KN
      generalize N.getD r default = c at cz AR1 AR3 AR4 CZ KEYP KN SLl
      obtain ⟨⟨ky, ln, ep, st⟩, vs⟩ := c
      obtain ⟨sa, sc, es⟩ := cz.rs.form
      simp only at es AR1 AR3 AR4 KEYP KN SLl
      subst es
      have AR1 := hidK AR1
      have AR4 := hidK AR4
      have RF : Hid (∀ X, TurnG (fun x => x = ub) wo X → RdI X (.slice sa st.length sc) st) := fun X t => (CZ.out X t).rs
      have SF : Hid (∀ V, TurnG (fun x => x = ub) wo V → (V.cell? ⟨b, off + r * 4, none⟩ = some (.string ⟨ky.toArray⟩) ∧ V.cell? ⟨b, off + r * 4 + 1, none⟩ = some (.int .i64 ln) ∧ V.cell? ⟨b, off + r * 4 + 2, none⟩ = some (.int .i64 ep) ∧ V.cell? ⟨b, off + r * 4 + 3, none⟩ = some (.slice sa st.length sc) ∧ V.cell? ⟨w.heap.size, 0, none⟩ = some (.int .i64 gk) ∧ V.cell? ⟨w.heap.size, 1, none⟩ = some (.int .i64 gm) ∧ V.cell? ⟨w.heap.size, 2, none⟩ = some (.int .i64 gz) ∧ V.cell? ⟨w.heap.size, 3, none⟩ = some (.int .i64 gs) ∧ V.cell? ⟨w.heap.size, 4, none⟩ = some (.int .i64 gt) ∧ V.cell? ⟨w.heap.size, 5, none⟩ = some (.int .i64 go))) := fun V t => by
        have z := CZ.out V t
        obtain ⟨⟨y0, y1, y2, y3, y4, y5⟩, _⟩ := GF.out V t
        exact ⟨z.c0, z.c1, z.c2, z.c3, y0, y1, y2, y3, y4, y5⟩
      clear cz AR3 CZ eLN hbw
      by_cases h0 : r = 0
      · have d1 := hidK (show decide (0 < r) = false from decide_eq_false (by omega))
        have C15 := SF.out wr.drew hT.out.drew
        clear KEYP h0
        go_wp2_with fail
        refine wp_region_held_drew (S := fun V => V.cell? ⟨b, off + r * 4, none⟩ = some (.string ⟨ky.toArray⟩) ∧ V.cell? ⟨b, off + r * 4 + 1, none⟩ = some (.int .i64 ln) ∧ V.cell? ⟨b, off + r * 4 + 2, none⟩ = some (.int .i64 ep) ∧ V.cell? ⟨b, off + r * 4 + 3, none⟩ = some (.slice sa st.length sc) ∧ V.cell? ⟨w.heap.size, 0, none⟩ = some (.int .i64 gk) ∧ V.cell? ⟨w.heap.size, 1, none⟩ = some (.int .i64 gm) ∧ V.cell? ⟨w.heap.size, 2, none⟩ = some (.int .i64 gz) ∧ V.cell? ⟨w.heap.size, 3, none⟩ = some (.int .i64 gs) ∧ V.cell? ⟨w.heap.size, 4, none⟩ = some (.int .i64 gt) ∧ V.cell? ⟨w.heap.size, 5, none⟩ = some (.int .i64 go)) (by kernel_rfl) C15 (fun hHeld => ?_)
        refine tkH 0 ?_
        refine tkH 1 ?_
        simp only [d1.out]
        refine tkH 2 ?_
        refine skH 3 ?_
        refine skH 4 ?_
        refine skH 5 ?_
        refine skH 6 ?_
        refine skH 7 ?_
        refine skH 8 ?_
        refine skH 9 ?_
        refine skH 10 ?_
        refine skH 11 ?_
        refine skH 12 ?_
        refine skH 13 ?_
        refine skH 14 ?_
        refine tkH 15 ?_
        refine tkH 16 ?_
        refine tkH 17 ?_
        refine tkH 18 ?_
        refine tkH 19 ?_
        refine tkH 20 ?_
        refine tkH 21 ?_
        refine tkH 22 ?_
        refine tkH 23 ?_
        refine tkH 24 ?_
        refine tkH 25 ?_
        refine tkH 26 ?_
        refine tkH 27 ?_
        refine tkH 28 ?_
        clear hHeld
        refine rnH 29 (fun K' hK => ?_)
        go_simp
        go_at_call 21
        refine (KN _).mono ?_
        rintro _ w5 ⟨rfl, b5⟩
        dsimp only
        have t5 := hT.out.trans (Below.turnG ((Below.refl wr.heap.size wr).drew.stepL b5 (Nat.le_refl _)) _)
        have S5 := SF.out w5 t5
        have T5 := hidK t5
        have R5 := hidK (hR.out.of_block (show w5.heap[ub]? = wr.heap[ub]? from b5.block ub hR.out.lt))
        refine koH hK S5 fun hHeld => ?_
        clear hK K' S5 b5 t5
        refine tkH 30 ?_
        refine tkH 31 ?_
        refine wpAnyH_done (by kernel_rfl) ?_ _
        clear hHeld C15
        clear hR hT KN
        go_wp2_with fail
        go_loopw [8, 11] (fun nv kv wq => ∃ q m : Nat, q ≤ st.length ∧ kv = .int .i64 (q : Int) ∧ nv = .int .i64 (m : Int) ∧ m ≤ 600 ∧ Hid (m = A.length + q) ∧ Hid (wq.rowIs ub 4 40 (fun j => .bool (decide ((j : Int) ∈ A ++ st.take q)))) ∧ Hid (TurnG (fun x => x = ub) wo wq)) (fun _ kv _ => st.length - (intOf kv).toNat)
        case atStart => exact ⟨0, A.length, Nat.zero_le _, rfl, rfl, by omega, rfl, R5.out.congr fun i hi => by simp, T5.out⟩
        case round =>
          clear R5 T5
          obtain ⟨q, m, hq, rfl, rfl, hm6, hmq, hU, hW⟩ := hrel
          obtain ⟨s0, s1, s2, s3, y0, y1, y2, y3, y4, y5⟩ := SF.out wr hW.out
          clear s0 s1 y0 y1 y2 y4 y5
          by_cases hq2 : q < st.length
          · have hq3 : (q : Int) < (st.length : Int) := by omega
            obtain ⟨z0, z1, z2, z3⟩ := AR4.out q hq2
            obtain ⟨vb, vo, ev, _, cs⟩ := (RF.out wr hW.out).at hq2
            obtain ⟨sn, hsn⟩ : ∃ n : Nat, st.getD q 0 = (n : Int) := ⟨(st.getD q 0).toNat, by omega⟩
            rw [hsn] at z0 z1 z2 z3 cs
            rw [← hA.out] at z2
            have g0 : ¬ (sn : Int) < 0 := by omega
            have g1 : ¬ (sn : Int) ≥ gs := by omega
            have g2 : sn < 40 := by omega
            have g3 : (sn : Int) < 40 := by omega
            have uc := hU.out.cell g2
            rw [decide_eq_false z2] at uc
            have uf := hU.out.frozen sn
            obtain ⟨X1, hX1⟩ : ∃ X, X = wr.setCell ⟨ub, sn, none⟩ (.bool true) := ⟨_, rfl⟩
            have o1 : Only ub wr X1 := by rw [hX1]; exact (Only.refl _ _).setCell _ _
            have U1 : Hid (X1.rowIs ub 4 40 (fun j => .bool (decide ((j : Int) ∈ A ++ st.take (q + 1))))) := by
              show World.rowIs _ _ _ _ _
              rw [hX1]
              refine (hU.out.set sn (.bool true)).congr fun j hj => ?_
              have e2 : st.take (q + 1) = st.take q ++ [(sn : Int)] := by
                rw [List.take_succ_eq_append_getElem hq2, ← hsn]
                simp [List.getD, hq2]
              by_cases ej : j = sn
              · subst ej
                rw [if_pos rfl, e2]
                simp
              · rw [if_neg ej, e2]
                congr 1
                rw [decide_eq_decide]
                simp only [List.mem_append, List.mem_singleton]
                constructor
                · rintro (k | k)
                  · exact Or.inl k
                  · exact Or.inr (Or.inl k)
                · rintro (k | k | k)
                  · exact Or.inl k
                  · exact Or.inr k
                  · exact absurd (by omega) ej
            have tX := hW.out.trans (o1.turnG (G := fun x => x = ub) rfl)
            have KO := hidK (cowner19_any (CF.out X1 tX) (sn : Int) (E := ep) (B := true) (by rw [hL.out, z3]; rfl) (by rw [hL.out, z3]; rfl))
            have TX := hidK tX
            have ev2 := ev
            subst ev
            clear z0 z1 z2 z3 hsn o1 tX hU hW
            go_wp2_with fail
            rw [← hX1]
            clear hX1
            refine KO.out.mono ?_
            clear KO uc uf
            rintro _ X2 ⟨rfl, b2⟩
            have t2 := TX.out.trans (Below.turnG b2 _)
            have U2 := hidK (U1.out.of_block (b2.block ub U1.out.lt))
            have T2 := hidK t2
            have M2 : Hid (m + 1 = A.length + (q + 1)) := by show _ = _; rw [hmq.out]; omega
            have hm7 : m + 1 ≤ 600 := by rw [hmq.out]; omega
            obtain ⟨_, _, s2, _, _, _, _, _, _, _⟩ := SF.out X2 t2
            clear t2 b2 U1 TX s3 y3
            go_wp2
            go_roundw
            case rel => exact ⟨q + 1, m + 1, by omega, by go_num, by go_num, hm7, M2, U2, T2⟩
            case measure => simp [intOf]; omega
          · obtain rfl : q = st.length := by omega
            have hge : ¬ (st.length : Int) < (st.length : Int) := by omega
            have UU : Hid (wr.rowIs ub 4 40 (fun j => .bool (decide ((j : Int) ∈ A ++ st)))) := by
              have := hU.out
              rw [List.take_length] at this
              exact this
            have AA : Hid (A ++ st = allS (L.take (r + 1))) := by show _ = _; rw [AR1.out, ← hA.out]
            have LA := hidK (show m = (A ++ st).length by rw [hmq.out, List.length_append])
            clear hU AR1 AR4 SF RF s2 y3 hmq
            go_wp2
            go_roundw
            case rel => exact ⟨r + 1, A ++ st, by omega, by go_num, by rw [← LA.out], AA, UU, hW⟩
            case measure => simp [intOf]; omega
      · have d0 := hidK (show (r : Int) > 0 by omega)
        have d1 := hidK (show decide (0 < r) = true from decide_eq_true (by omega))
        obtain ⟨kp, PFh, k1, k2⟩ := KEYP.out h0
        have PF := hidK PFh
        have C15 := And.intro (PF.out wr.drew hT.out.drew) (SF.out wr.drew hT.out.drew)
        have W0 : IntKind.i64.wrap ((r : Int) - 1) = ((r - 1 : Nat) : Int) := by rw [IntKind.wrap_i64]; omega
        clear KEYP PFh
        go_wp2_with fail
        have hp0 : r - 1 < N.length := by omega
        refine wp_region_held_drew (S := fun V => V.cell? ⟨b, off + (r - 1) * 4, none⟩ = some (.string ⟨kp.toArray⟩) ∧ V.cell? ⟨b, off + r * 4, none⟩ = some (.string ⟨ky.toArray⟩) ∧ V.cell? ⟨b, off + r * 4 + 1, none⟩ = some (.int .i64 ln) ∧ V.cell? ⟨b, off + r * 4 + 2, none⟩ = some (.int .i64 ep) ∧ V.cell? ⟨b, off + r * 4 + 3, none⟩ = some (.slice sa st.length sc) ∧ V.cell? ⟨w.heap.size, 0, none⟩ = some (.int .i64 gk) ∧ V.cell? ⟨w.heap.size, 1, none⟩ = some (.int .i64 gm) ∧ V.cell? ⟨w.heap.size, 2, none⟩ = some (.int .i64 gz) ∧ V.cell? ⟨w.heap.size, 3, none⟩ = some (.int .i64 gs) ∧ V.cell? ⟨w.heap.size, 4, none⟩ = some (.int .i64 gt) ∧ V.cell? ⟨w.heap.size, 5, none⟩ = some (.int .i64 go)) (by kernel_rfl) C15 (fun hHeld => ?_)
        refine tkH 0 ?_
        refine tkH 1 ?_
        simp only [d1.out]
        refine tkH 2 ?_
        refine tkH 3 ?_
        refine tkH 4 ?_
        refine tkH 5 ?_
        refine tkH 6 ?_
        refine tkH 7 ?_
        refine tkH 8 ?_
        refine tkH 9 ?_
        refine tkH 10 ?_
        refine tkH 11 ?_
        refine tkH 12 ?_
        refine tkH 13 ?_
        refine tkH 14 ?_
        refine tkH 15 ?_
        refine tkH 16 ?_
        refine tkH 17 ?_
        refine tkH 18 ?_
        refine tkH 19 ?_
        refine tkH 20 ?_
        refine tkH 21 ?_
        refine tkH 22 ?_
        refine tkH 23 ?_
        refine tkH 24 ?_
        refine tkH 25 ?_
        refine tkH 26 ?_
        refine tkH 27 ?_
        refine tkH 28 ?_
        clear hHeld
        refine rnH 29 (fun K' hK => ?_)
        go_simp
        go_at_call 21
        refine (KN _).mono ?_
        rintro _ w5 ⟨rfl, b5⟩
        dsimp only
        have t5 := hT.out.trans (Below.turnG ((Below.refl wr.heap.size wr).drew.stepL b5 (Nat.le_refl _)) _)
        have S5 := SF.out w5 t5
        have T5 := hidK t5
        have R5 := hidK (hR.out.of_block (show w5.heap[ub]? = wr.heap[ub]? from b5.block ub hR.out.lt))
        have P5 := PF.out w5 t5
        refine koH hK ⟨P5, S5⟩ fun hHeld => ?_
        clear hK K' S5 b5 t5 P5
        refine tkH 30 ?_
        refine tkH 31 ?_
        refine wpAnyH_done (by kernel_rfl) ?_ _
        clear hHeld C15
        clear hR hT KN PF k1 k2 W0
        go_wp2_with fail
        go_loopw [8, 11] (fun nv kv wq => ∃ q m : Nat, q ≤ st.length ∧ kv = .int .i64 (q : Int) ∧ nv = .int .i64 (m : Int) ∧ m ≤ 600 ∧ Hid (m = A.length + q) ∧ Hid (wq.rowIs ub 4 40 (fun j => .bool (decide ((j : Int) ∈ A ++ st.take q)))) ∧ Hid (TurnG (fun x => x = ub) wo wq)) (fun _ kv _ => st.length - (intOf kv).toNat)
        case atStart => exact ⟨0, A.length, Nat.zero_le _, rfl, rfl, by omega, rfl, R5.out.congr fun i hi => by simp, T5.out⟩
        case round =>
          clear R5 T5
          obtain ⟨q, m, hq, rfl, rfl, hm6, hmq, hU, hW⟩ := hrel
          obtain ⟨s0, s1, s2, s3, y0, y1, y2, y3, y4, y5⟩ := SF.out wr hW.out
          clear s0 s1 y0 y1 y2 y4 y5
          by_cases hq2 : q < st.length
          · have hq3 : (q : Int) < (st.length : Int) := by omega
            obtain ⟨z0, z1, z2, z3⟩ := AR4.out q hq2
            obtain ⟨vb, vo, ev, _, cs⟩ := (RF.out wr hW.out).at hq2
            obtain ⟨sn, hsn⟩ : ∃ n : Nat, st.getD q 0 = (n : Int) := ⟨(st.getD q 0).toNat, by omega⟩
            rw [hsn] at z0 z1 z2 z3 cs
            rw [← hA.out] at z2
            have g0 : ¬ (sn : Int) < 0 := by omega
            have g1 : ¬ (sn : Int) ≥ gs := by omega
            have g2 : sn < 40 := by omega
            have g3 : (sn : Int) < 40 := by omega
            have uc := hU.out.cell g2
            rw [decide_eq_false z2] at uc
            have uf := hU.out.frozen sn
            obtain ⟨X1, hX1⟩ : ∃ X, X = wr.setCell ⟨ub, sn, none⟩ (.bool true) := ⟨_, rfl⟩
            have o1 : Only ub wr X1 := by rw [hX1]; exact (Only.refl _ _).setCell _ _
            have U1 : Hid (X1.rowIs ub 4 40 (fun j => .bool (decide ((j : Int) ∈ A ++ st.take (q + 1))))) := by
              show World.rowIs _ _ _ _ _
              rw [hX1]
              refine (hU.out.set sn (.bool true)).congr fun j hj => ?_
              have e2 : st.take (q + 1) = st.take q ++ [(sn : Int)] := by
                rw [List.take_succ_eq_append_getElem hq2, ← hsn]
                simp [List.getD, hq2]
              by_cases ej : j = sn
              · subst ej
                rw [if_pos rfl, e2]
                simp
              · rw [if_neg ej, e2]
                congr 1
                rw [decide_eq_decide]
                simp only [List.mem_append, List.mem_singleton]
                constructor
                · rintro (k | k)
                  · exact Or.inl k
                  · exact Or.inr (Or.inl k)
                · rintro (k | k | k)
                  · exact Or.inl k
                  · exact Or.inr k
                  · exact absurd (by omega) ej
            have tX := hW.out.trans (o1.turnG (G := fun x => x = ub) rfl)
            have KO := hidK (cowner19_any (CF.out X1 tX) (sn : Int) (E := ep) (B := true) (by rw [hL.out, z3]; rfl) (by rw [hL.out, z3]; rfl))
            have TX := hidK tX
            have ev2 := ev
            subst ev
            clear z0 z1 z2 z3 hsn o1 tX hU hW
            go_wp2_with fail
            rw [← hX1]
            clear hX1
            refine KO.out.mono ?_
            clear KO uc uf
            rintro _ X2 ⟨rfl, b2⟩
            have t2 := TX.out.trans (Below.turnG b2 _)
            have U2 := hidK (U1.out.of_block (b2.block ub U1.out.lt))
            have T2 := hidK t2
            have M2 : Hid (m + 1 = A.length + (q + 1)) := by show _ = _; rw [hmq.out]; omega
            have hm7 : m + 1 ≤ 600 := by rw [hmq.out]; omega
            obtain ⟨_, _, s2, _, _, _, _, _, _, _⟩ := SF.out X2 t2
            clear t2 b2 U1 TX s3 y3
            go_wp2
            go_roundw
            case rel => exact ⟨q + 1, m + 1, by omega, by go_num, by go_num, hm7, M2, U2, T2⟩
            case measure => simp [intOf]; omega
          · obtain rfl : q = st.length := by omega
            have hge : ¬ (st.length : Int) < (st.length : Int) := by omega
            have UU : Hid (wr.rowIs ub 4 40 (fun j => .bool (decide ((j : Int) ∈ A ++ st)))) := by
              have := hU.out
              rw [List.take_length] at this
              exact this
            have AA : Hid (A ++ st = allS (L.take (r + 1))) := by show _ = _; rw [AR1.out, ← hA.out]
            have LA := hidK (show m = (A ++ st).length by rw [hmq.out, List.length_append])
            clear hU AR1 AR4 SF RF s2 y3 hmq
            go_wp2
            go_roundw
            case rel => exact ⟨r + 1, A ++ st, by omega, by go_num, by rw [← LA.out], AA, UU, hW⟩
            case measure => simp [intOf]; omega
    · obtain rfl : r = N.length := by omega
      have hge : ¬ (N.length : Int) < (N.length : Int) := by omega
      have EA : allS L = A := by rw [hA.out, ← LL.out, List.take_length]
      have hle : (N.length : Int) ≤ go := by
        have := INV.out.few
        rw [LL.out] at this
        exact this
      obtain ⟨X, hX⟩ : ∃ X, (frC ⟨gk, gm, gz, gs, gt, go⟩ (oL M) : Int) = X := ⟨_, rfl⟩
      have W1 : IntKind.i64.wrap (gs - (A.length : Int)) = X := by
        have h1 := frC_eq INV.out OK.out
        have h2 := allS_length L
        obtain ⟨_, _, _, _, _, h3, h4, _⟩ := OK.out
        rw [EA] at h2
        rw [← hX, hL.out, h1, IntKind.wrap_i64]
        simp only at h1 h3 h4 ⊢
        omega
      obtain ⟨na, hna⟩ : ∃ z, z = A.length := ⟨_, rfl⟩
      rw [← hna] at W1 ⊢
      have KF := hidK (cfrees19_any (CF.out wr.drew hT.out.drew) hX)
      have SG : Hid (∀ V, TurnG (fun x => x = ub) wo V → V.cell? ⟨w.heap.size, 0, none⟩ = some (.int .i64 gk) ∧ V.cell? ⟨w.heap.size, 1, none⟩ = some (.int .i64 gm) ∧ V.cell? ⟨w.heap.size, 2, none⟩ = some (.int .i64 gz) ∧ V.cell? ⟨w.heap.size, 3, none⟩ = some (.int .i64 gs) ∧ V.cell? ⟨w.heap.size, 4, none⟩ = some (.int .i64 gt) ∧ V.cell? ⟨w.heap.size, 5, none⟩ = some (.int .i64 go)) := fun V t => (GF.out V t).1
      have C28 := SG.out wr.drew hT.out.drew
      clear EA hna hA hR hX
      go_wp2_with fail
      refine wp_region_held_drew (S := fun V => V.cell? ⟨w.heap.size, 0, none⟩ = some (.int .i64 gk) ∧ V.cell? ⟨w.heap.size, 1, none⟩ = some (.int .i64 gm) ∧ V.cell? ⟨w.heap.size, 2, none⟩ = some (.int .i64 gz) ∧ V.cell? ⟨w.heap.size, 3, none⟩ = some (.int .i64 gs) ∧ V.cell? ⟨w.heap.size, 4, none⟩ = some (.int .i64 gt) ∧ V.cell? ⟨w.heap.size, 5, none⟩ = some (.int .i64 go)) (by kernel_rfl) C28 (fun hHeld => ?_)
      refine tkH 0 ?_
      refine tkH 1 ?_
      refine tkH 2 ?_
      refine tkH 3 ?_
      refine tkH 4 ?_
      refine tkH 5 ?_
      refine tkH 6 ?_
      refine tkH 8 ?_
      refine tkH 9 ?_
      refine tkH 10 ?_
      refine tkH 11 ?_
      clear hHeld
      refine rnH 7 (fun K' hK => ?_)
      go_simp
      go_at_call 18
      refine KF.out.mono ?_
      clear KF
      rintro _ w5 ⟨rfl, b5⟩
      dsimp only
      have t5 := hT.out.trans (Below.turnG ((Below.refl wr.heap.size wr).drew.stepL b5 (Nat.le_refl _)) _)
      have F5 := hidK (GF.out w5 t5).2
      refine koH hK (SG.out w5 t5) fun hHeld => ?_
      clear hK K' b5 t5
      refine tkH 12 ?_
      refine tkH 13 ?_
      refine tkH 14 ?_
      refine wpAnyH_done (by kernel_rfl) ?_ _
      clear hHeld C28 SG GF CF OFN hT
      go_wp2
      go_ret
      exact ⟨rfl, F5.out⟩

/-! ### THE ROW's STEP: WRITTEN OUT: LEAVE IT -/
set_option maxRecDepth 100000 in
set_option maxHeartbeats 2000000 in
theorem lifted (os : Os) (started : os.Started) (H : Type) (enc : TypeId × Value → H) :
    ReturnsInHanded {} Try.checked os 5 .any (Rows.catalogApartSpec.pre6 enc Try.prog Try.f5 Rows.catalogApartRow.domain false) (Rows.catalogApartSpec.post enc Try.prog Try.f5 false true false false) := by
  refine returnsInHanded_of_change (C := Try.checked) own started (by kernel_rfl) Try.func5
    (ChangeSpec.witness6 (enc := enc) (C := Try.checked) false ⟨#[], #[.agg #[.int .i64 0, .int .i64 0, .int .i64 0, .int .i64 0, .int .i64 0, .int .i64 0], .slice none 0 0], []⟩ 8 (by kernel_rfl) (by kernel_rfl) (by kernel_rfl) (by kernel_rfl)) ?_
  intro W base args ds gs before hval0 hW hcnd _
  have hval : ∀ (j : Nat) t v, Try.f5.params[j]? = some t → args[j]? = some v → Value.okWide Try.prog W .any base t v := hval0
  have hW' := hW
  obtain ⟨p, q, hA0, hV, rfl, hfz, hnd⟩ := hW
  have hA : DataW.TrodAll enc Try.prog W 0 (fun _ => true) true Try.f5.params.toList args.toList ds p := hA0
  rw [Try.params5] at hA hval
  obtain ⟨v0, vs0, d0, ds0, p0, q0, hargs, rfl, rfl, h0, r0⟩ := trodAll_cons hA
  obtain ⟨v1, vs1, d1, ds1, p1, q1, rfl, rfl, rfl, h1, r1⟩ := trodAll_cons r0
  obtain ⟨rfl, rfl, rfl⟩ := trodAll_nil r1
  obtain rfl : args = #[v0, v1] := by cases args; simp_all
  obtain ⟨rfl, rfl⟩ := trodVars_none hV
  have k0 := h0
  have lt0 : ∀ x ∈ p0, x.block < W.heap.size := by obtain ⟨m, hm⟩ := k0; exact DataW.trod_lt m _ _ _ hm
  obtain ⟨c0, rfl, w0⟩ := open_geo Try.underlying24 (by kernel_rfl) rfl rfl rfl rfl rfl rfl (by kernel_rfl) (by kernel_rfl) (by kernel_rfl) (by kernel_rfl) (by kernel_rfl) (by kernel_rfl) (by kernel_rfl) (by kernel_rfl) (by kernel_rfl) (by kernel_rfl) (by kernel_rfl) (by kernel_rfl) (hval 0 24 v0 rfl rfl) h0
  obtain ⟨a1, len1, cap1, rfl⟩ := okWide_slice Try.underlying26 (hval 1 26 v1 rfl rfl)
  have k1 := h1
  have lt1 : ∀ x ∈ p1, x.block < W.heap.size := by obtain ⟨m, hm⟩ := k1; exact DataW.trod_lt m _ _ _ hm
  obtain ⟨z1, w1⟩ : ∃ zs, RdC19 W (.slice a1 len1 cap1) zs := by
    obtain ⟨fuel, hf⟩ := h1
    obtain ⟨a9, l9, c9, L9, hcs, _, hR⟩ := open_kcalls (si := 3) Try.underlying26 Try.underlying41 (by kernel_rfl) rfl rfl rfl (by kernel_rfl) (by kernel_rfl) (by kernel_rfl) (by kernel_rfl) (by kernel_rfl) Try.underlying39 rfl rfl rfl rfl (by kernel_rfl) (by kernel_rfl) (by kernel_rfl) (by kernel_rfl) (by kernel_rfl) (by kernel_rfl) (by kernel_rfl) (by kernel_rfl) (by kernel_rfl) (by kernel_rfl) hf
    simp [Value.cells] at hcs
    obtain ⟨rfl, rfl, rfl⟩ := hcs
    exact ⟨L9, hR⟩
  clear hA0 hval0
  refine (walk c0 a1 len1 cap1 z1 W w0 w1).mono fun e W' ⟨he, bel⟩ => ?_
  subst he
  exact ⟨_, rfl, _, _, _, [], _, [], hW', trodAll_mk1 (shut_bool Try.underlying4 _), (trodAll_cons_mk (Below.trod laidOut (by kernel_rfl) (of_decide_eq_true (by kernel_rfl)) k0 bel lt0) (trodAll_cons_mk (Below.trod laidOut (by kernel_rfl) (of_decide_eq_true (by kernel_rfl)) k1 bel lt1) trodAll_mk0)), rfl, bel.frame _, fun h => by cases h⟩

theorem over : Rows.catalogApartRow.holds Try.pinned (OpenSpec.ofChange Rows.catalogApartSpec) :=
  OpenClaim.holds_of_wide 5 Try.f5 rfl rfl rfl rfl rfl rfl rfl ⟨rfl, rfl, rfl, rfl, rfl⟩ rfl rfl rfl rfl rfl (by kernel_rfl) Try.func5 (by kernel_rfl)
    (of_decide_eq_true (by kernel_rfl)) (by unfold Func.isWrapper; first | (rw [if_pos (by decide +kernel)]; kernel_rfl) | (rw [if_neg (by decide +kernel)]; exact ⟨rfl, rfl⟩))
    (fun os started H enc _ => lifted os started H enc)

/-- ████ THE STATEMENT ████ -/
theorem proved : Rows.CatalogApartSaid := over
end Go.Proofs.Ytndlfmofjmieaaa.catalogApart
namespace Go.Proofs.Ytndlfmofjmieaaa
theorem catalogApart_holds : Rows.CatalogApartSaid := catalogApart.proved
#print axioms catalogApart_holds
end Go.Proofs.Ytndlfmofjmieaaa
