/- TEXTS JOINED: ReXO, ReCK, ReCL, ReUn. -/
import Derived.Test.YthmoiffkgcnjmaaTome10
namespace Go.Proofs.Ythmoiffkgcnjmaa.Gf
set_option linter.unusedVariables false
set_option linter.unusedSimpArgs false
open Go.RowKit
/-- bytes begin with an object, whatever its epoch -/
def LxO (b : List UInt8) : Prop := 4 ≤ b.length ∧ NxR (b.drop 4) ∧ (raR (b.drop 4)).kind = 1
instance (b : List UInt8) : Decidable (LxO b) := inferInstanceAs (Decidable (_ ∧ _ ∧ _))
def unX : Nat → List UInt8 → Option (List ObS × List UInt8)
  | 0, b => some ([], b)
  | n + 1, b => if LxO b then (unX n (reO b)).map (fun x => (raO b :: x.1, x.2)) else none
theorem nx_lx {b : List UInt8} : NxO b ↔ LxO b ∧ (raO b).ep ≤ 2147483647 := by
  show _ ↔ _ ∧ ((nu b : Nat) : Int) ≤ _
  unfold NxO LxO
  constructor
  · rintro ⟨h1, h2, h3, h4⟩; exact ⟨⟨h1, h2, h4⟩, by omega⟩
  · rintro ⟨⟨h1, h2, h4⟩, h3⟩; exact ⟨h1, h2, by omega, h4⟩
theorem unX_unO {n : Nat} {b : List UInt8} {l : List ObS} {r : List UInt8} (h : unX n b = some (l, r)) (he : ∀ o ∈ l, o.ep ≤ 2147483647) : unO n b = some (l, r) := by
  induction n generalizing b l with
  | zero => exact h
  | succ n ih =>
    unfold unX at h
    by_cases q : LxO b
    · rw [if_pos q] at h
      cases e : unX n (reO b) with
      | none => rw [e] at h; cases h
      | some x =>
        obtain ⟨l', r'⟩ := x
        rw [e] at h
        simp only [Option.map_some, Option.some.injEq, Prod.mk.injEq] at h
        obtain ⟨rfl, rfl⟩ := h
        unfold unO
        rw [if_pos (nx_lx.2 ⟨q, he _ (List.mem_cons_self ..)⟩), ih e fun o ho => he o (List.mem_cons_of_mem _ ho)]
        rfl
    · rw [if_neg q] at h; cases h
theorem unO_unX {n : Nat} {b : List UInt8} {x : List ObS × List UInt8} (h : unO n b = some x) : unX n b = some x := by
  induction n generalizing b x with
  | zero => exact h
  | succ n ih =>
    unfold unO at h
    by_cases q : NxO b
    · rw [if_pos q] at h
      cases e : unO n (reO b) with
      | none => rw [e] at h; cases h
      | some y =>
        rw [e] at h
        unfold unX
        rw [if_pos (nx_lx.1 q).1, ih e]
        exact h
    · rw [if_neg q] at h; cases h
/-- one object more, behind those that were read -/
theorem unX_snoc {n : Nat} {b : List UInt8} {l : List ObS} {r : List UInt8} (h : unX n b = some (l, r)) : unX (n + 1) b = if LxO r then some (l ++ [raO r], reO r) else none := by
  induction n generalizing b l with
  | zero =>
    have h : some (([] : List ObS), b) = some (l, r) := h
    simp only [Option.some.injEq, Prod.mk.injEq] at h
    obtain ⟨rfl, rfl⟩ := h
    rfl
  | succ n ih =>
    unfold unX at h
    by_cases q : LxO b
    · rw [if_pos q] at h
      cases e : unX n (reO b) with
      | none => rw [e] at h; cases h
      | some x =>
        obtain ⟨l', r'⟩ := x
        rw [e] at h
        simp only [Option.map_some, Option.some.injEq, Prod.mk.injEq] at h
        obtain ⟨rfl, rfl⟩ := h
        show (if LxO b then (unX (n + 1) (reO b)).map (fun x => (raO b :: x.1, x.2)) else none) = _
        rw [if_pos q, ih e]
        by_cases q2 : LxO r'
        · rw [if_pos q2, if_pos q2]; rfl
        · rw [if_neg q2, if_neg q2]; rfl
    · rw [if_neg q] at h; cases h
theorem unX_none {n m : Nat} {b : List UInt8} (h : unX n b = none) (hm : n ≤ m) : unX m b = none := by
  induction n generalizing b m with
  | zero => cases h
  | succ n ih =>
    obtain ⟨m, rfl⟩ : ∃ k, m = k + 1 := ⟨m - 1, by omega⟩
    unfold unX at h ⊢
    by_cases q : LxO b
    · rw [if_pos q] at h ⊢
      cases e : unX n (reO b) with
      | none => rw [ih e (by omega)]; rfl
      | some x => rw [e] at h; cases h
    · rw [if_neg q]
theorem unX_rest {n : Nat} {b : List UInt8} {l : List ObS} {r : List UInt8} (h : unX n b = some (l, r)) : r.length ≤ b.length ∧ l.length = n := by
  induction n generalizing b l with
  | zero =>
    have h : some (([] : List ObS), b) = some (l, r) := h
    simp only [Option.some.injEq, Prod.mk.injEq] at h
    obtain ⟨rfl, rfl⟩ := h
    exact ⟨Nat.le_refl _, rfl⟩
  | succ n ih =>
    unfold unX at h
    by_cases q : LxO b
    · rw [if_pos q] at h
      cases e : unX n (reO b) with
      | none => rw [e] at h; cases h
      | some x =>
        obtain ⟨l', r'⟩ := x
        rw [e] at h
        simp only [Option.map_some, Option.some.injEq, Prod.mk.injEq] at h
        obtain ⟨rfl, rfl⟩ := h
        have := ih e
        refine ⟨Nat.le_trans this.1 ?_, by rw [List.length_cons, this.2]⟩
        unfold reO reR
        rw [List.length_drop, List.length_drop]
        omega
    · rw [if_neg q] at h; cases h
/-- what all bytes of a snap are read as -/
def IsB (p : List UInt8) (l : List ObS) : Prop := 2 ≤ p.length ∧ unX (un p) (p.drop 2) = some (l, []) ∧ MayL l
theorem isB_isP {p q : List UInt8} {l : List ObS} : IsP [p, q] l ↔ CutP p q ∧ IsB (p ++ q) l := by
  constructor
  · rintro ⟨p', q', e, h1, h2, h3, h4⟩
    simp only [List.cons.injEq, and_true] at e
    obtain ⟨rfl, rfl⟩ := e
    exact ⟨h1, h2, unO_unX h3, h4⟩
  · rintro ⟨h1, h2, h3, h4⟩
    exact ⟨p, q, rfl, h1, h2, unX_unO h3 fun o ho => (h4.all ho).2.2, h4⟩
end Go.Proofs.Ythmoiffkgcnjmaa.Gf

namespace Go.Proofs.Ythmoiffkgcnjmaa.Gf
set_option linter.unusedVariables false
set_option linter.unusedSimpArgs false
open Go.RowKit
/-- an object that was read, or none -/
def ReadsX16 (w0 : World) (rb : Nat) (w : World) (p : List UInt8) (e : Ending) (w' : World) : Prop :=
  (LxO p ∧ ∃ c : ObV, e = .returned (aggO c) ∧ c.o = raO p ∧ ObOk w' c ∧ (∀ k, c.vs.ownBlock = some k → w.heap.size ≤ k ∧ k < w'.heap.size) ∧ RdrAt w0 rb w' (reO p) ∧ Turn rb w w') ∨ (¬ LxO p ∧ e = .panicked pz16 ∧ Turn rb w w')
theorem ReadsX16.no {w0 : World} {rb : Nat} {w : World} {p : List UInt8} {w' : World} (h : ¬ LxO p) (t : Turn rb w w') : ReadsX16 w0 rb w p (.panicked pz16) w' := Or.inr ⟨h, rfl, t⟩
set_option maxRecDepth 100000 in
set_option maxHeartbeats 4000000 in
theorem robj16_any {w0 w : World} {rb : Nat} {p : List UInt8} (h : RdrAt w0 rb w p) (hp : p.length ≤ 100000) : Calls Try.prog 53 #[.pointer (some ⟨rb, 0, none⟩)] w (ReadsX16 w0 rb w p) := by
  obtain ⟨w1, hw1⟩ : ∃ w1, w1 = w.alloc (.cells #[.string ⟨#[]⟩, .int .i64 0, .int .i64 0, .slice none 0 0] 62) := ⟨_, rfl⟩
  have s1 : w1.heap.size = w.heap.size + 1 := by rw [hw1]; simp
  have lr := h.lt
  have lo := h.lo
  have sz := h.bl.size
  have B1 : Below w.heap.size w w1 := by rw [hw1]; exact belR _ _
  have cA : ∀ j, w1.cell? ⟨w.heap.size, j, none⟩ = #[Value.string ⟨#[]⟩, .int .i64 0, .int .i64 0, .slice none 0 0][j]? := fun j => by rw [hw1, World.cell?_alloc_new]
  have fA : ∀ j, w1.frozen? ⟨w.heap.size, j, none⟩ = false := fun j => by rw [hw1]; simp [go_sem]
  have r1 := h.below B1
  have AF : Hid (∀ W, Turn rb w1 W → (∀ j, W.cell? ⟨w.heap.size, j, none⟩ = #[Value.string ⟨#[]⟩, .int .i64 0, .int .i64 0, .slice none 0 0][j]? ∧ W.frozen? ⟨w.heap.size, j, none⟩ = false) ∧ Turn rb w W) := fun W t => ⟨fun j => ⟨(t.cell (p := ⟨w.heap.size, j, none⟩) (by show w.heap.size < _; omega) (by show w.heap.size ≠ _; omega)).trans (cA j), (t.frozen (p := ⟨w.heap.size, j, none⟩) (by show w.heap.size < _; omega) (by show w.heap.size ≠ _; omega)).trans (fA j)⟩, (Below.turn B1 rb).trans t⟩
  have S1 : Hid (w1.heap.size = w.heap.size + 1) := s1
  clear cA fA h s1
  go_enter Try.func53, Try.ntmps53
  go_wp2_with fail
  rw [← hw1]
  clear hw1
  by_cases l4 : 4 ≤ p.length
  rotate_left
  · refine (rnum16_no r1 (k := 4) (by omega) rfl).mono ?_
    rintro _ _ ⟨rfl, rfl⟩
    exact ⟨rfl, ReadsX16.no (fun q => by have := q.1; omega) (AF.out _ (Turn.refl _ _)).2⟩
  refine (rnum16_yes r1 (k := 4) (by omega) l4 rfl rfl).mono ?_
  rintro _ w2 ⟨rfl, r2, o2⟩
  rw [nuL4 l4]
  obtain ⟨ep, hep⟩ : ∃ ep : Int, Hid (ep = ((nu p : Nat) : Int)) := ⟨_, rfl⟩
  rw [← hep.out]
  have z2 : Hid (w2.heap.size = w1.heap.size) := o2.size
  have t2 : Turn rb w1 w2 := o2.turn
  clear r1 o2
  have K := rrec16_any r2 (by rw [List.length_drop]; omega)
  go_wp2_with fail
  refine K.mono ?_
  rintro _ w3 (⟨hn, c, rfl, hc, hi, hf, r3, t3⟩ | ⟨hn, rfl, t3⟩)
  rotate_left
  · exact ⟨rfl, ReadsX16.no (fun q => hn q.2.1) (AF.out _ (t2.trans t3)).2⟩
  obtain ⟨⟨kd, ky, ln, st⟩, vs⟩ := c
  obtain ⟨va, vc, ev⟩ := hi.rs.form
  simp only at ev hc
  subst ev
  clear K r2
  rw [show aggR ⟨⟨kd, ky, ln, st⟩, .slice va st.length vc⟩ = .agg #[.int .i64 kd, .string ⟨ky.toArray⟩, .int .i64 ln, .slice va st.length vc] from rfl]
  obtain ⟨w4, hw4⟩ : ∃ w4, w4 = w3.alloc (.cells #[.int .i64 kd, .string ⟨ky.toArray⟩, .int .i64 ln, .slice va st.length vc] 25) := ⟨_, rfl⟩
  have B4 : Below w3.heap.size w3 w4 := by rw [hw4]; exact belR _ _
  have r4 := r3.below B4
  have t4 : Turn rb w1 w4 := (t2.trans t3).trans (Below.turn B4 _)
  have g0 : w4.cell? ⟨w3.heap.size, 0, none⟩ = some (.int .i64 kd) := by rw [hw4, World.cell?_alloc_new]; rfl
  have g1 : w4.cell? ⟨w3.heap.size, 1, none⟩ = some (.string ⟨ky.toArray⟩) := by rw [hw4, World.cell?_alloc_new]; rfl
  have g2 : w4.cell? ⟨w3.heap.size, 2, none⟩ = some (.int .i64 ln) := by rw [hw4, World.cell?_alloc_new]; rfl
  have g3 : w4.cell? ⟨w3.heap.size, 3, none⟩ = some (.slice va st.length vc) := by rw [hw4, World.cell?_alloc_new]; rfl
  have i4 := hi.below B4
  have HK : Hid (kd = (raR (p.drop 4)).kind) := by show _ = _; rw [← hc]
  have HC : Hid ((⟨ky, ln, ep, st⟩ : ObS) = raO p) := by
    show _ = _
    unfold raO
    rw [← hc, hep.out]
  have HF : Hid (∀ k, (Value.slice va st.length vc).ownBlock = some k → w.heap.size < k ∧ k < w4.heap.size) := fun k hk => by
    have a1 := hf k hk
    have a2 := S1.out
    have a3 := z2.out
    have a4 := B4.size
    omega
  clear hc hf hi r3 t2 t3
  by_cases h1 : kd = 1
  rotate_left
  · have FIN : Hid (ReadsX16 w0 rb w p (.panicked pz16) w4) := ReadsX16.no (fun q => h1 (HK.out.trans q.2.2)) (AF.out _ t4).2
    clear r4 g1 g2 g3 i4 HC
    go_wp2_with fail
    rw [← hw4]
    clear hw4
    refine (ask16_no (beq_eq_false_iff_ne.2 h1)).mono ?_
    rintro _ _ ⟨rfl, rfl⟩
    exact ⟨rfl, FIN.out⟩
  · have HY : Hid (LxO p) := ⟨l4, hn, by rw [← HK.out]; exact h1⟩
    subst h1
    obtain ⟨kA, tW⟩ := AF.out w4 t4
    obtain ⟨m0, f0⟩ := kA 0
    obtain ⟨m1, f1⟩ := kA 1
    obtain ⟨m2, f2⟩ := kA 2
    obtain ⟨m3, f3⟩ := kA 3
    simp at m0 m1 m2 m3
    clear kA
    go_wp2_with fail
    rw [← hw4]
    clear hw4
    refine (ask16_yes rfl).mono ?_
    rintro _ w6 ⟨rfl, rfl⟩
    obtain ⟨W, hW⟩ : ∃ W, W = (((w6.setCell ⟨w.heap.size, 0, none⟩ (.string ⟨ky.toArray⟩)).setCell ⟨w.heap.size, 1, none⟩ (.int .i64 ln)).setCell ⟨w.heap.size, 2, none⟩ (.int .i64 ep)).setCell ⟨w.heap.size, 3, none⟩ (.slice va st.length vc) := ⟨_, rfl⟩
    obtain ⟨OA, n0, n1, n2, n3⟩ := set4 (a := .string ⟨ky.toArray⟩) (b := .int .i64 ln) (c := .int .i64 ep) (d := .slice va st.length vc) m0 m1 m2 m3
    rw [← hW] at OA n0 n1 n2 n3
    have FIN : Hid (ReadsX16 w0 rb w p (.returned (.agg #[.string ⟨ky.toArray⟩, .int .i64 ln, .int .i64 ep, .slice va st.length vc])) W) := by
      refine Or.inl ⟨HY.out, ⟨⟨ky, ln, ep, st⟩, .slice va st.length vc⟩, rfl, HC.out, ⟨i4.wl, ?_, i4.ky, i4.rs.only (fun e => by have := HF.out _ e; omega) OA, i4.wi⟩, ?_, r4.only OA sz (by omega), ?_⟩
      · show (Lit.int .i64 ep).wf = true
        rw [hep.out]; have := nu_lt p; exact wf64 (by omega) (by omega)
      · intro k hk
        have := HF.out k hk
        rw [OA.size]
        omega
      · exact ⟨OA.os.trans tW.os, OA.tape.trans tW.tape, OA.output.trans tW.output, by rw [OA.size]; exact tW.size, fun k hk hn => (OA.block k (by omega)).trans (tW.block k hk hn)⟩
    clear OA r4 i4 tW t4
    go_wp2
    rw [← hW]
    clear hW
    exact bodyPost_ret (v := .agg #[.string ⟨ky.toArray⟩, .int .i64 ln, .int .i64 ep, .slice va st.length vc]) (by simp [results, Try.results53, go_sem, n0, n1, n2, n3]) rfl FIN.out
end Go.Proofs.Ythmoiffkgcnjmaa.Gf

namespace Go.Proofs.Ythmoiffkgcnjmaa.Gf
set_option linter.unusedVariables false
set_option linter.unusedSimpArgs false
open Go.RowKit
theorem RdrAt.gro {w0 : World} {rb : Nat} {w w' : World} {p : List UInt8} {v v' : Value} (h : RdrAt w0 rb w p) (g : Gro w v w' v') (hv : ∀ k, v.ownBlock = some k → w0.heap.size ≤ k ∧ k ≠ rb) : RdrAt w0 rb w' p := by
  obtain ⟨u, c, R⟩ := h.at0
  have l := h.lt
  have ne : v.ownBlock ≠ some rb := fun e => (hv rb e).2 rfl
  exact ⟨⟨u, (g.cell (p := ⟨rb, 0, none⟩) l ne).trans c, R⟩, (g.frozen (p := ⟨rb, 0, none⟩) l ne).trans h.fz, h.bl.grown g.gr h.bl.size (fun q hq => (hv q hq).1), h.lo⟩
theorem Turn.gro {g : Nat} {w w1 w' : World} {v v' : Value} (h : Turn g w w1) (k : Gro w1 v w' v') (hv : ∀ k, v.ownBlock = some k → w.heap.size ≤ k) : Turn g w w' :=
  ⟨k.gr.os.trans h.os, k.gr.tape.trans h.tape, k.gr.output.trans h.output, Nat.le_trans h.size k.gr.size, fun i hi hn => (k.gr.block i (Nat.lt_of_lt_of_le hi h.size) (fun e => by have := hv i e.symm; omega)).trans (h.block i hi hn)⟩
theorem raO_st (q : List UInt8) : (raO q).st.length < 65536 := by
  show (stN _ _).length < _
  rw [stN_length]
  exact un_lt _
/-- objects that were read, or none -/
def ReadsL16 (w0 : World) (rb : Nat) (w : World) (p : List UInt8) (e : Ending) (w' : World) : Prop :=
  (∃ (L : List ObV) (q : List UInt8) (v : Value), 2 ≤ p.length ∧ unX (un p) (p.drop 2) = some (oL L, q) ∧ MayL (oL L) ∧ e = .returned v ∧ OwnO w' w.heap.size v L ∧ RdrAt w0 rb w' q ∧ Turn rb w w') ∨ ((∀ l q, 2 ≤ p.length → unX (un p) (p.drop 2) = some (l, q) → ¬ MayL l) ∧ e = .panicked pz16 ∧ Turn rb w w')
theorem ReadsL16.no {w0 : World} {rb : Nat} {w : World} {p : List UInt8} {w' : World} (h : ∀ l q, 2 ≤ p.length → unX (un p) (p.drop 2) = some (l, q) → ¬ MayL l) (t : Turn rb w w') : ReadsL16 w0 rb w p (.panicked pz16) w' := Or.inr ⟨h, rfl, t⟩
set_option maxRecDepth 100000 in
set_option maxHeartbeats 4000000 in
theorem robs16_any {w0 w : World} {rb : Nat} {p : List UInt8} (h : RdrAt w0 rb w p) (hp : p.length ≤ 100000) : Calls Try.prog 45 #[.pointer (some ⟨rb, 0, none⟩)] w (ReadsL16 w0 rb w p) := by
  have lr := h.lt
  have lo := h.lo
  have sz := h.bl.size
  go_enter Try.func45, Try.ntmps45
  go_wp2_with fail
  by_cases l2 : 2 ≤ p.length
  rotate_left
  · refine (rnum16_no h (k := 2) (by omega) rfl).mono ?_
    rintro _ _ ⟨rfl, rfl⟩
    exact ⟨rfl, ReadsL16.no (fun l q e => by omega) (Turn.refl _ _)⟩
  refine (rnum16_yes h (k := 2) (by omega) l2 rfl rfl).mono ?_
  rintro _ w2 ⟨rfl, r2, o2⟩
  rw [nuL2 l2]
  obtain ⟨C, hC⟩ : ∃ C : Nat, Hid (C = un p) := ⟨_, rfl⟩
  have C0 : C < 65536 := by rw [hC.out]; exact un_lt _
  rw [← hC.out]
  have t2 : Turn rb w w2 := o2.turn
  have hl2 : (p.drop 2).length ≤ 100000 := by rw [List.length_drop]; omega
  clear h o2
  go_wp2
  go_loopw [3, 6] (fun lv i wr => ∃ (r : Nat) (L : List ObV) (q : List UInt8), r ≤ C ∧ i = .int .i64 (r : Int) ∧ OwnO wr w.heap.size lv L ∧ Hid (unX r (p.drop 2) = some (oL L, q)) ∧ RdrAt w0 rb wr q ∧ Turn rb w wr ∧ Hid (∀ c ∈ L, c.o.st.length ≤ 1000000)) (fun _ i _ => C - (intOf i).toNat)
  case atStart => exact ⟨0, [], p.drop 2, Nat.zero_le _, rfl, OwnO.nil _ _, rfl, r2, t2, fun c hc => by cases hc⟩
  case round =>
    clear r2 t2
    obtain ⟨r, L, q, hr, rfl, hO, hU, hR, hT, hS⟩ := hrel
    have lq : q.length ≤ 100000 := Nat.le_trans (unX_rest hU.out).1 hl2
    have ll : Hid (L.length = r) := by have := (unX_rest hU.out).2; rwa [oL_length] at this
    obtain ⟨la, lc, el⟩ := (hO.rd (by have := ll.out; omega)).form
    subst el
    by_cases hlt : r < C
    · have hlt' : (r : Int) < (C : Int) := by omega
      have K := robj16_any hR lq
      have sw := hT.size
      have vb : Hid (∀ k, (Value.slice la L.length lc).ownBlock = some k → w.heap.size ≤ k ∧ k < wr.heap.size) := World.ownsRow.lt hO.row
      go_wp2_with fail
      refine K.mono ?_
      rintro _ w3 (⟨hn, c, rfl, hc, hi, hf, r3, t3⟩ | ⟨hn, rfl, t3⟩)
      rotate_left
      · have FIN : Hid (ReadsL16 w0 rb w p (.panicked pz16) w3) := ReadsL16.no (fun l q' _ e => by
            have h1 := unX_snoc hU.out
            rw [if_neg hn] at h1
            rw [← hC.out, unX_none h1 (by omega)] at e
            cases e) (hT.trans t3)
        exact ⟨rfl, FIN.out⟩
      have HU2 : Hid (unX (r + 1) (p.drop 2) = some (oL (L ++ [c]), reO q)) := by
        show _ = _
        rw [unX_snoc hU.out, if_pos hn]
        show some (oL L ++ [raO q], reO q) = some ((L ++ [c]).map ObV.o, reO q)
        rw [List.map_append, ← hc]
        rfl
      have HS2 : Hid (∀ d ∈ L ++ [c], d.o.st.length ≤ 1000000) := fun d hd => by
        rcases List.mem_append.1 hd with hd | hd
        · exact hS.out d hd
        · simp only [List.mem_singleton] at hd
          subst hd
          rw [hc]
          have := raO_st q
          omega
      have HA : ∀ k, c.vs.ownBlock = some k → w.heap.size ≤ k ∧ k < w3.heap.size ∧ (Value.slice la L.length lc).ownBlock ≠ some k := fun k hk => ⟨by have := (hf k hk).1; omega, (hf k hk).2, fun e => by have := (hf k hk).1; have := (vb.out k e).2; omega⟩
      have O3 := hO.turn t3 lr
      have T3 := hT.trans t3
      obtain ⟨⟨ky, ln, ep, st⟩, vs⟩ := c
      obtain ⟨va, vc, ev⟩ := hi.rs.form
      simp only at ev
      subst ev
      rw [show aggO ⟨⟨ky, ln, ep, st⟩, .slice va st.length vc⟩ = .agg #[.string ⟨ky.toArray⟩, .int .i64 ln, .int .i64 ep, .slice va st.length vc] from rfl]
      clear hc hf hn hU hS hO hR hT K t3
      have s3 : w.heap.size ≤ w3.heap.size := T3.size
      go_wp2_with (at_builtin; (refine wpList_append_o (w := w3) rfl (.tmp 8) (.tmp 11) rfl rfl rfl O3 hi HA rfl rfl rfl (by have := ll.out; omega) s3 ?_); intro v4 w4 o4 G4)
      have r4 := r3.gro G4 (fun k hk => by have := vb.out k hk; omega)
      have T4 := T3.gro G4 (fun k hk => (vb.out k hk).1)
      clear O3 T3 r3 G4 hi HA
      go_roundw
      case rel => exact ⟨r + 1, _, _, by omega, by go_num, o4, HU2, r4, T4, HS2⟩
      case measure => simp [intOf]; omega
    · obtain rfl : r = C := by omega
      have hge : ¬ (r : Int) < (r : Int) := by omega
      have K := mbt16_any (hO.rd (by have := ll.out; omega)) (fun i hi => hS.out _ (by rw [List.getD_eq_getElem?_getD, List.getElem?_eq_getElem hi]; exact List.getElem_mem hi))
      have HU : Hid (unX (un p) (p.drop 2) = some (oL L, q)) := by rw [← hC.out]; exact hU
      clear hU
      go_wp2_with fail
      refine K.mono ?_
      rintro _ w3 ⟨x, rfl, hx, B3⟩
      have HX : Hid (x = true ↔ MayL (oL L)) := hx
      clear K hx
      cases x with
      | false =>
        have FIN : Hid (ReadsL16 w0 rb w p (.panicked pz16) w3) := ReadsL16.no (fun l q' _ e => by
          rw [HU.out] at e
          simp only [Option.some.injEq, Prod.mk.injEq] at e
          rw [← e.1]
          intro k
          have := HX.out.2 k
          cases this) (hT.trans (Below.turn B3 _))
        go_wp2_with fail
        refine (ask16_no rfl).mono ?_
        rintro _ _ ⟨rfl, rfl⟩
        exact ⟨rfl, FIN.out⟩
      | true =>
        have FIN : Hid (ReadsL16 w0 rb w p (.returned (.slice la L.length lc)) w3) := Or.inl ⟨L, q, _, l2, HU.out, HX.out.1 rfl, rfl, hO.turn (Below.turn B3 rb) lr, hR.below B3, hT.trans (Below.turn B3 _)⟩
        clear hO hR hT
        go_wp2_with fail
        refine (ask16_yes rfl).mono ?_
        rintro _ w4 ⟨rfl, rfl⟩
        go_wp2
        go_ret
        exact FIN.out
end Go.Proofs.Ythmoiffkgcnjmaa.Gf

namespace Go.Proofs.Ythmoiffkgcnjmaa.Gf
set_option linter.unusedVariables false
set_option linter.unusedSimpArgs false
open Go.RowKit
def UnW16 (w : World) (p : List UInt8) (e : Ending) (w' : World) : Prop :=
  (∃ (L : List ObV) (v : Value), IsB p (oL L) ∧ e = .returned (.tuple #[v, .int .i64 0]) ∧ RdO w' v L ∧ Below w.heap.size w w') ∨ ((∀ l, ¬ IsB p l) ∧ e = .returned (.tuple #[.slice none 0 0, .int .i64 160]) ∧ Below w.heap.size w w')
/-- .. of parts -/
def UnP16 (w : World) (P : List (List UInt8)) (e : Ending) (w' : World) : Prop :=
  (∃ (L : List ObV) (v : Value), IsP P (oL L) ∧ e = .returned (.tuple #[v, .int .i64 0]) ∧ RdO w' v L ∧ Below w.heap.size w w') ∨ ((∀ l, ¬ IsP P l) ∧ e = .returned (.tuple #[.slice none 0 0, .int .i64 160]) ∧ Below w.heap.size w w')
end Go.Proofs.Ythmoiffkgcnjmaa.Gf
