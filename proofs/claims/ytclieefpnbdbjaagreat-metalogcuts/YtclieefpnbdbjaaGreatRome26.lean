/- TEXTS JOINED: ReCL, ReUn, ReOF, ReCM. -/
import Derived.Test.YtclieefpnbdbjaaGreatRome25
import Derived.Test.YtclieefpnbdbjaaGreatRome18
namespace Go.Proofs.YtclieefpnbdbjaaGreat.Gf
set_option linter.unusedVariables false
set_option linter.unusedSimpArgs false
open Go.RowKit
theorem RdrAt.gro {w0 : World} {rb : Nat} {w w' : World} {p : List UInt8} {v v' : Value} (h : RdrAt w0 rb w p) (g : Gro w v w' v') (hv : ∀ k, v.ownBlock = some k → w0.heap.size ≤ k ∧ k ≠ rb) : RdrAt w0 rb w' p := by
  obtain ⟨u, c, R⟩ := h.at0
  have l := h.lt
  have ne : v.ownBlock ≠ some rb := fun e => (hv rb e).2 rfl
  exact ⟨⟨u, (g.cell (p := ⟨rb, 0, none⟩) l ne).trans c, R⟩, (g.frozen (p := ⟨rb, 0, none⟩) l ne).trans h.fz, h.bl.grown g.gr h.bl.size (fun q hq => (hv q hq).1), h.lo⟩
theorem Turn.gro {g : Nat} {w w1 w' : World} {v v' : Value} (h : Turn g w w1) (k : Gro w1 v w' v') (hv : ∀ k, v.ownBlock = some k → w.heap.size ≤ k) : Turn g w w' :=
  ⟨k.gr.os.trans h.os, k.gr.tape.trans h.tape, k.gr.output.trans h.output, Nat.le_trans h.size k.gr.size, fun i hi hn => (k.gr.block i (Nat.lt_of_lt_of_le hi h.size) (fun e => by have := hv i e.symm; omega)).trans (h.block i hi hn)⟩
theorem raO_st (q : List UInt8) : (raO q).st.length < 65536 := by
  show (stN _ _).length < _
  rw [stN_length]
  exact un_lt _
/-- objects that were read, or none -/
def ReadsL16 (w0 : World) (rb : Nat) (w : World) (p : List UInt8) (e : Ending) (w' : World) : Prop :=
  (∃ (L : List ObV) (q : List UInt8) (v : Value), 2 ≤ p.length ∧ unX (un p) (p.drop 2) = some (oL L, q) ∧ MayL (oL L) ∧ e = .returned v ∧ OwnO w' w.heap.size v L ∧ RdrAt w0 rb w' q ∧ Turn rb w w') ∨ ((∀ l q, 2 ≤ p.length → unX (un p) (p.drop 2) = some (l, q) → ¬ MayL l) ∧ e = .panicked pz16 ∧ Turn rb w w')
theorem ReadsL16.no {w0 : World} {rb : Nat} {w : World} {p : List UInt8} {w' : World} (h : ∀ l q, 2 ≤ p.length → unX (un p) (p.drop 2) = some (l, q) → ¬ MayL l) (t : Turn rb w w') : ReadsL16 w0 rb w p (.panicked pz16) w' := Or.inr ⟨h, rfl, t⟩
set_option maxRecDepth 100000 in
set_option maxHeartbeats 4000000 in
theorem robs16_any {w0 w : World} {rb : Nat} {p : List UInt8} (h : RdrAt w0 rb w p) (hp : p.length ≤ 100000) : Calls Tryz.prog 158 #[.pointer (some ⟨rb, 0, none⟩)] w (ReadsL16 w0 rb w p) := by
  have lr := h.lt
  have lo := h.lo
  have sz := h.bl.size
  go_enter Tryz.func158, Tryz.ntmps158
  go_wp2_with fail
  by_cases l2 : 2 ≤ p.length
  rotate_left
  · refine (rnum16_no h (k := 2) (by omega) rfl).mono ?_
    rintro _ _ ⟨rfl, rfl⟩
    exact ⟨rfl, ReadsL16.no (fun l q e => by omega) (Turn.refl _ _)⟩
  refine (rnum16_yes h (k := 2) (by omega) l2 rfl rfl).mono ?_
  rintro _ w2 ⟨rfl, r2, o2⟩
  rw [nuL2 l2]
  obtain ⟨C, hC⟩ : ∃ C : Nat, Hid (C = un p) := ⟨_, rfl⟩
  have C0 : C < 65536 := by rw [hC.out]; exact un_lt _
  rw [← hC.out]
  have t2 : Turn rb w w2 := o2.turn
  have hl2 : (p.drop 2).length ≤ 100000 := by rw [List.length_drop]; omega
  clear h o2
  go_wp2
  go_loopw [3, 6] (fun lv i wr => ∃ (r : Nat) (L : List ObV) (q : List UInt8), r ≤ C ∧ i = .int .i64 (r : Int) ∧ OwnO wr w.heap.size lv L ∧ Hid (unX r (p.drop 2) = some (oL L, q)) ∧ RdrAt w0 rb wr q ∧ Turn rb w wr ∧ Hid (∀ c ∈ L, c.o.st.length ≤ 1000000)) (fun _ i _ => C - (intOf i).toNat)
  case atStart => exact ⟨0, [], p.drop 2, Nat.zero_le _, rfl, OwnO.nil _ _, rfl, r2, t2, fun c hc => by cases hc⟩
  case round =>
    clear r2 t2
    obtain ⟨r, L, q, hr, rfl, hO, hU, hR, hT, hS⟩ := hrel
    have lq : q.length ≤ 100000 := Nat.le_trans (unX_rest hU.out).1 hl2
    have ll : Hid (L.length = r) := by have := (unX_rest hU.out).2; rwa [oL_length] at this
    obtain ⟨la, lc, el⟩ := (hO.rd (by have := ll.out; omega)).form
    subst el
    by_cases hlt : r < C
    · have hlt' : (r : Int) < (C : Int) := by omega
      have K := robj16_any hR lq
      have sw := hT.size
      have vb : Hid (∀ k, (Value.slice la L.length lc).ownBlock = some k → w.heap.size ≤ k ∧ k < wr.heap.size) := World.ownsRow.lt hO.row
      go_wp2_with fail
      refine K.mono ?_
      rintro _ w3 (⟨hn, c, rfl, hc, hi, hf, r3, t3⟩ | ⟨hn, rfl, t3⟩)
      rotate_left
      · have FIN : Hid (ReadsL16 w0 rb w p (.panicked pz16) w3) := ReadsL16.no (fun l q' _ e => by
            have h1 := unX_snoc hU.out
            rw [if_neg hn] at h1
            rw [← hC.out, unX_none h1 (by omega)] at e
            cases e) (hT.trans t3)
        exact ⟨rfl, FIN.out⟩
      have HU2 : Hid (unX (r + 1) (p.drop 2) = some (oL (L ++ [c]), reO q)) := by
        show _ = _
        rw [unX_snoc hU.out, if_pos hn]
        show some (oL L ++ [raO q], reO q) = some ((L ++ [c]).map ObV.o, reO q)
        rw [List.map_append, ← hc]
        rfl
      have HS2 : Hid (∀ d ∈ L ++ [c], d.o.st.length ≤ 1000000) := fun d hd => by
        rcases List.mem_append.1 hd with hd | hd
        · exact hS.out d hd
        · simp only [List.mem_singleton] at hd
          subst hd
          rw [hc]
          have := raO_st q
          omega
      have HA : ∀ k, c.vs.ownBlock = some k → w.heap.size ≤ k ∧ k < w3.heap.size ∧ (Value.slice la L.length lc).ownBlock ≠ some k := fun k hk => ⟨by have := (hf k hk).1; omega, (hf k hk).2, fun e => by have := (hf k hk).1; have := (vb.out k e).2; omega⟩
      have O3 := hO.turn t3 lr
      have T3 := hT.trans t3
      obtain ⟨⟨ky, ln, ep, st⟩, vs⟩ := c
      obtain ⟨va, vc, ev⟩ := hi.rs.form
      simp only at ev
      subst ev
      rw [show aggO ⟨⟨ky, ln, ep, st⟩, .slice va st.length vc⟩ = .agg #[.string ⟨ky.toArray⟩, .int .i64 ln, .int .i64 ep, .slice va st.length vc] from rfl]
      clear hc hf hn hU hS hO hR hT K t3
      have s3 : w.heap.size ≤ w3.heap.size := T3.size
      go_wp2_with (at_builtin; (refine wpList_append_o (w := w3) rfl (.tmp 8) (.tmp 11) rfl rfl rfl O3 hi HA rfl rfl rfl (by have := ll.out; omega) s3 ?_); intro v4 w4 o4 G4)
      have r4 := r3.gro G4 (fun k hk => by have := vb.out k hk; omega)
      have T4 := T3.gro G4 (fun k hk => (vb.out k hk).1)
      clear O3 T3 r3 G4 hi HA
      go_roundw
      case rel => exact ⟨r + 1, _, _, by omega, by go_num, o4, HU2, r4, T4, HS2⟩
      case measure => simp [intOf]; omega
    · obtain rfl : r = C := by omega
      have hge : ¬ (r : Int) < (r : Int) := by omega
      have K := mbt16_any (hO.rd (by have := ll.out; omega)) (fun i hi => hS.out _ (by rw [List.getD_eq_getElem?_getD, List.getElem?_eq_getElem hi]; exact List.getElem_mem hi))
      have HU : Hid (unX (un p) (p.drop 2) = some (oL L, q)) := by rw [← hC.out]; exact hU
      clear hU
      go_wp2_with fail
      refine K.mono ?_
      rintro _ w3 ⟨x, rfl, hx, B3⟩
      have HX : Hid (x = true ↔ MayL (oL L)) := hx
      clear K hx
      cases x with
      | false =>
        have FIN : Hid (ReadsL16 w0 rb w p (.panicked pz16) w3) := ReadsL16.no (fun l q' _ e => by
          rw [HU.out] at e
          simp only [Option.some.injEq, Prod.mk.injEq] at e
          rw [← e.1]
          intro k
          have := HX.out.2 k
          cases this) (hT.trans (Below.turn B3 _))
        go_wp2_with fail
        refine (ask16_no rfl).mono ?_
        rintro _ _ ⟨rfl, rfl⟩
        exact ⟨rfl, FIN.out⟩
      | true =>
        have FIN : Hid (ReadsL16 w0 rb w p (.returned (.slice la L.length lc)) w3) := Or.inl ⟨L, q, _, l2, HU.out, HX.out.1 rfl, rfl, hO.turn (Below.turn B3 rb) lr, hR.below B3, hT.trans (Below.turn B3 _)⟩
        clear hO hR hT
        go_wp2_with fail
        refine (ask16_yes rfl).mono ?_
        rintro _ w4 ⟨rfl, rfl⟩
        go_wp2
        go_ret
        exact FIN.out
end Go.Proofs.YtclieefpnbdbjaaGreat.Gf

namespace Go.Proofs.YtclieefpnbdbjaaGreat.Gf
set_option linter.unusedVariables false
set_option linter.unusedSimpArgs false
open Go.RowKit
/-- objects that stay as they are where blocks below N turn -/
def RdOF (N : Nat) (w : World) (v : Value) (L : List ObV) : Prop := RdO w v L ∧ ∀ (G : Nat → Prop) (W : World), (∀ k, G k → k < N) → TurnG G w W → RdO W v L
theorem RdOF.mono {N N' : Nat} {w : World} {v : Value} {L : List ObV} (h : RdOF N w v L) (hN : N' ≤ N) : RdOF N' w v L := ⟨h.1, fun G W hG t => h.2 G W (fun k g => Nat.lt_of_lt_of_le (hG k g) hN) t⟩
theorem RdOF.turn {N : Nat} {w W : World} {v : Value} {L : List ObV} {G : Nat → Prop} (h : RdOF N w v L) (hG : ∀ k, G k → k < N) (t : TurnG G w W) : RdO W v L := h.2 G W hG t
theorem RdOF.form {N : Nat} {w : World} {v : Value} {L : List ObV} (h : RdOF N w v L) : ∃ a c, v = .slice a L.length c := h.1.form
theorem RdOF.below {N : Nat} {w W : World} {v : Value} {L : List ObV} (h : RdOF N w v L) (b : Below w.heap.size w W) : RdOF N W v L := ⟨h.1.below b, fun G W2 hG t => h.2 G W2 hG ((Below.turnG b G).trans t)⟩
def UnW16F (w : World) (p : List UInt8) (e : Ending) (w' : World) : Prop :=
  (∃ (L : List ObV) (v : Value), IsB p (oL L) ∧ e = .returned (.tuple #[v, .int .i64 0]) ∧ RdOF w.heap.size w' v L ∧ Below w.heap.size w w') ∨ ((∀ l, ¬ IsB p l) ∧ e = .returned (.tuple #[.slice none 0 0, .int .i64 160]) ∧ Below w.heap.size w w')
def UnP16F (w : World) (P : List (List UInt8)) (e : Ending) (w' : World) : Prop :=
  (∃ (L : List ObV) (v : Value), IsP P (oL L) ∧ e = .returned (.tuple #[v, .int .i64 0]) ∧ RdOF w.heap.size w' v L ∧ Below w.heap.size w w') ∨ ((∀ l, ¬ IsP P l) ∧ e = .returned (.tuple #[.slice none 0 0, .int .i64 160]) ∧ Below w.heap.size w w')
end Go.Proofs.YtclieefpnbdbjaaGreat.Gf

namespace Go.Proofs.YtclieefpnbdbjaaGreat.Gf
set_option linter.unusedVariables false
set_option linter.unusedSimpArgs false
open Go.RowKit
theorem RdI.keepG {G : Nat → Prop} {w W : World} {x : Value} {zs : List Int} (h : RdI w x zs) (t : TurnG G w W) (hne : ∀ k, x.ownBlock = some k → ¬ G k) : RdI W x zs := by
  rcases h with h | ⟨b, off, cap, h1, rfl, h3, h5, h6⟩
  · exact Or.inl h
  · exact Or.inr ⟨b, off, cap, h1, rfl, h3, Nat.lt_of_lt_of_le h5 t.size, fun i hi => (t.cell (p := ⟨b, off + i, none⟩) h5 (hne b rfl)).trans (h6 i hi)⟩
theorem row_keepG {G : Nat → Prop} {w W : World} {base e s n N : Nat} {v : Value} {xs : List Value} (h : w.ownsRow base e s v n xs) (t : TurnG G w W) (hG : ∀ k, G k → k < N) (hN : N ≤ base) : W.ownsRow base e s v n xs := by
  obtain ⟨h0, h | ⟨g2, cap, cur, hv, hgg, hh, r⟩⟩ := h
  · exact ⟨h0, Or.inl h⟩
  · have hlt : g2 < w.heap.size := (Array.getElem?_eq_some_iff.1 hh).1
    exact ⟨h0, Or.inr ⟨g2, cap, cur, hv, hgg, by rw [t.block g2 hlt (fun g => by have := hG _ g; omega)]; exact hh, r⟩⟩
theorem OwnO.keepG {G : Nat → Prop} {w W : World} {base N : Nat} {v : Value} {L : List ObV} (h : OwnO w base v L) (t : TurnG G w W) (hG : ∀ k, G k → k < N) (hN : N ≤ base) : OwnO W base v L :=
  ⟨row_keepG h.row t hG hN, fun c hc => ⟨(h.ea c hc).wl, (h.ea c hc).we, (h.ea c hc).ky, (h.ea c hc).rs.keepG t (fun k hk g => by have := (h.ap c hc k hk).1; have := hG _ g; omega), (h.ea c hc).wi⟩, fun c hc k hk => ⟨(h.ap c hc k hk).1, Nat.lt_of_lt_of_le (h.ap c hc k hk).2.1 t.size, (h.ap c hc k hk).2.2⟩⟩
theorem OwnO.far {w : World} {base N : Nat} {v : Value} {L : List ObV} (h : OwnO w base v L) (hl : L.length ≤ 1000000) (hN : N ≤ base) : RdOF N w v L := ⟨h.rd hl, fun G W hG t => (h.keepG t hG hN).rd hl⟩
end Go.Proofs.YtclieefpnbdbjaaGreat.Gf

namespace Go.Proofs.YtclieefpnbdbjaaGreat.Gf
set_option linter.unusedVariables false
set_option linter.unusedSimpArgs false
open Go.RowKit
theorem ocl16_pan {eb : Nat} {x : Int} {w : World} (hc : w.cell? ⟨eb, 0, none⟩ = some (.int .i64 x)) (hz : w.frozen? ⟨eb, 0, none⟩ = false) :
    CallsD Tryz.prog 182 #[.pointer (some ⟨eb, 0, none⟩)] (.panicking pz16) w fun e u' w' => e = .returned (.tuple #[]) ∧ u' = .panicking [{ v := .iface 28 (.int .i64 160), recovered := true }] ∧ w' = w.setCell ⟨eb, 0, none⟩ (.int .i64 160) := by
  have hta : ∀ w, (Instr.typeAssert (.iface 28 (.int .i64 160)) 20 28 false).run Tryz.prog w = .ok (.int .i64 160) w := fun _ => by kernel_rfl
  refine callsD_of_wpS Tryz.func182 rfl fun c₀ cs hu => ?_
  unfold pz16 at hu
  apply wpS_seq
  apply wpS_region
  simp [wpOpsS, go_sem, recoverD, hu, Tryz.ntmps182, Exit.thenS]
  refine wpS_of_wp ?_
  rw [show (#[Value.pointer (some ⟨eb, 0, none⟩)] ++ ((Array.replicate 6 undef).setIfInBounds 1 (Value.iface 28 (.int .i64 160))).setIfInBounds 0 (Value.iface 28 (.int .i64 160))) = #[Value.pointer (some ⟨eb, 0, none⟩), .iface 28 (.int .i64 160), .iface 28 (.int .i64 160), undef, undef, undef, undef] from rfl]
  go_wp2
  exact ⟨rfl, _, rfl, .tuple #[], by simp [results, Tryz.results182, go_sem], rfl, rfl, rfl⟩
theorem ocl16_ret {eb : Nat} {w : World} :
    CallsD Tryz.prog 182 #[.pointer (some ⟨eb, 0, none⟩)] .returning w fun e u' w' => e = .returned (.tuple #[]) ∧ u' = .returning ∧ w' = w := by
  refine callsD_of_wpS Tryz.func182 rfl fun c₀ cs hu => ?_
  apply wpS_seq
  apply wpS_region
  simp [wpOpsS, go_sem, recoverD, hu, Tryz.ntmps182, Exit.thenS]
  refine wpS_of_wp ?_
  rw [show (#[Value.pointer (some ⟨eb, 0, none⟩)] ++ ((Array.replicate 6 undef).setIfInBounds 1 Value.nilIface).setIfInBounds 0 Value.nilIface) = #[Value.pointer (some ⟨eb, 0, none⟩), .nilIface, .nilIface, undef, undef, undef, undef] from rfl]
  go_wp2
  cases c₀
  simp_all [bodyPostS, results, Tryz.results182]
theorem rwo_pan {p : Prop} (h : p := by
  obtain ⟨kE, fE, B4⟩ := AF.out w4 t4
  have kZ := World.cell?_setCell_same w4 ⟨w.heap.size, 0, none⟩ (.int .i64 160) kE
  have FIN : Hid (UnW16F w p (.returned (.tuple #[.slice none 0 0, .int .i64 160])) (w4.setCell ⟨w.heap.size, 0, none⟩ (.int .i64 160))) := Or.inr ⟨nI.out, rfl, B4.setCell (Nat.le_refl _) _⟩
  refine leaves_cons (f := 182) (args := #[.pointer (some ⟨w.heap.size, 0, none⟩)]) (by simp) (by simp [go_sem]) ?_
  refine (ocl16_pan kE fE).mono ?_
  rintro e u' w'' ⟨rfl, rfl, rfl⟩
  exact ⟨.tuple #[.slice none 0 0, .int .i64 160], by simp [results, Tryz.results156, go_sem, kZ], FIN.out⟩) : p := h
set_option maxRecDepth 100000 in
set_option maxHeartbeats 4000000 in
theorem rwo16_any {w : World} {v : Value} {p : List UInt8} (R : Rd w v p) (hp : p.length ≤ 100000) : Calls Tryz.prog 156 #[v, .func (.func 158) #[] #[]] w (UnW16F w p) := by
  obtain ⟨a, cp, e⟩ := R.form
  subst e
  have hmf : ∀ (fn : Fn) (first cap : Array Value) (w : World), (Instr.makeFunc fn first cap).run Tryz.prog w = .ok (.func fn first cap) w := fun _ _ _ _ => rfl
  obtain ⟨w3, hw3⟩ : ∃ w3, w3 = (w.alloc (.cells #[.int .i64 0] 28)).alloc (.cells #[.slice a p.length cp] 238) := ⟨_, rfl⟩
  have s3 : w3.heap.size = w.heap.size + 2 := by rw [hw3]; simp
  have B3 : Below w.heap.size w w3 := by rw [hw3]; exact (belR _ _).trans ((belR _ _).mono (by simp))
  have cE : w3.cell? ⟨w.heap.size, 0, none⟩ = some (.int .i64 0) := by
    rw [hw3, World.cell?_alloc_lt _ _ _ (by simp), World.cell?_alloc_new]
    rfl
  have cR : w3.cell? ⟨w.heap.size + 1, 0, none⟩ = some (.slice a p.length cp) := by
    rw [hw3, show w.heap.size + 1 = (w.alloc (.cells #[.int .i64 0] 28)).heap.size by simp, World.cell?_alloc_new]
    rfl
  have fE : w3.frozen? ⟨w.heap.size, 0, none⟩ = false := by rw [hw3]; simp [go_sem]
  have fR : w3.frozen? ⟨w.heap.size + 1, 0, none⟩ = false := by rw [hw3]; simp [go_sem]
  have r3 : RdrAt w (w.heap.size + 1) w3 p := ⟨⟨_, cR, R⟩, fR, B3, by omega⟩
  have AF : Hid (∀ W, Turn (w.heap.size + 1) w3 W → W.cell? ⟨w.heap.size, 0, none⟩ = some (.int .i64 0) ∧ W.frozen? ⟨w.heap.size, 0, none⟩ = false ∧ Below w.heap.size w W) := fun W t => ⟨(t.cell (p := ⟨w.heap.size, 0, none⟩) (by show w.heap.size < _; omega) (by show w.heap.size ≠ _; omega)).trans cE, (t.frozen (p := ⟨w.heap.size, 0, none⟩) (by show w.heap.size < _; omega) (by show w.heap.size ≠ _; omega)).trans fE, B3.trans (t.below (by omega) (by omega))⟩
  have S3 : Hid (w3.heap.size = w.heap.size + 2) := s3
  have K := robs16_any r3 hp
  clear cE cR fE fR R s3
  go_enter_defers Tryz.func156, Tryz.ntmps156
  go_wp2_with fail
  rw [← hw3]
  clear hw3
  refine K.mono ?_
  rintro _ w4 (⟨L, q, lv, h2, hu, hm, rfl, hO, r4, t4⟩ | ⟨hn, rfl, t4⟩)
  rotate_left
  · have nI : Hid (∀ l, ¬ IsB p l) := fun l k => hn l [] k.1 k.2.1 k.2.2
    exact rwo_pan
  have lL : Hid (L.length ≤ 64) := by have := hm.1; rwa [oL_length] at this
  obtain ⟨la, lc, el⟩ := (hO.rd (by have := lL.out; omega)).form
  subst el
  obtain ⟨u, cu, Ru⟩ := r4.at0
  obtain ⟨ua, uc, eu⟩ := Ru.form
  subst eu
  have EQ : Hid (q.length = 0 → IsB p (oL L)) := fun e => ⟨h2, by rw [hu, List.length_eq_zero_iff.1 e], hm⟩
  have EN : Hid (q.length ≠ 0 → ∀ l, ¬ IsB p l) := fun e l k => by
    have h3 := k.2.1
    rw [hu] at h3
    simp only [Option.some.injEq, Prod.mk.injEq] at h3
    exact e (by rw [h3.2]; rfl)
  generalize q.length = m at cu EQ EN
  clear Ru r4 K r3 hu hm
  by_cases h0 : (m : Int) = 0
  rotate_left
  · have nI : Hid (∀ l, ¬ IsB p l) := EN.out (by omega)
    clear hO
    go_wp2_with fail
    refine (ask16_no (beq_eq_false_iff_ne.2 h0)).mono ?_
    rintro _ w4 ⟨rfl, rfl⟩
    exact rwo_pan
  · have yI : Hid (IsB p (oL L)) := EQ.out (by omega)
    obtain ⟨kE, fE, BW⟩ := AF.out w4 t4
    clear EQ EN t4
    go_wp2_with fail
    refine (ask16_yes rfl).mono ?_
    rintro _ w6 ⟨rfl, rfl⟩
    have OE : Only w.heap.size w6 (w6.setCell ⟨w.heap.size, 0, none⟩ (.int .i64 0)) := (Only.refl _ _).setCell _ _
    have e5 := World.cell?_setCell_same w6 ⟨w.heap.size, 0, none⟩ (.int .i64 0) kE
    have FIN : Hid (UnW16F w p (.returned (.tuple #[.slice la L.length lc, .int .i64 0])) (w6.setCell ⟨w.heap.size, 0, none⟩ (.int .i64 0))) := Or.inl ⟨L, _, yI.out, rfl, (hO.turn OE.turn (by have := S3.out; omega)).far (by have := lL.out; omega) (by have := S3.out; omega), BW.trans (OE.below (Nat.le_refl _))⟩
    clear hO OE BW cu
    go_wp2
    refine leaves_cons (f := 182) (args := #[.pointer (some ⟨w.heap.size, 0, none⟩)]) (by simp) (by simp [go_sem]) ?_
    refine ocl16_ret.mono ?_
    rintro e u' w'' ⟨rfl, rfl, rfl⟩
    exact ⟨.tuple #[.slice la L.length lc, .int .i64 0], by simp [results, Tryz.results156, go_sem, e5], FIN.out⟩
/-- are parts cut as they should be? -/
def Cuts16 (P : List (List UInt8)) : Prop := ∃ p q, P = [p, q] ∧ CutP p q
/-- a bool that says so, and nothing else -/
def SaysC16 (p : Prop) (w : World) (e : Ending) (w' : World) : Prop := ∃ x : Bool, e = .returned (.bool x) ∧ (x = true ↔ p) ∧ w' = w
theorem SaysC16.no {p : Prop} {w : World} (h : ¬ p) : SaysC16 p w (.returned (.bool false)) w := ⟨_, rfl, ⟨fun e => (by cases e), fun k => absurd k h⟩, rfl⟩
theorem SaysC16.yes {p : Prop} {w : World} (h : p) : SaysC16 p w (.returned (.bool true)) w := ⟨_, rfl, ⟨fun _ => h, fun _ => rfl⟩, rfl⟩
theorem cut_no {p : Prop} (h : p := by
  go_wp2
  go_ret
  exact SaysC16.no N.out) : p := h
set_option maxRecDepth 100000 in
set_option maxHeartbeats 2000000 in
theorem areCut16_any {w : World} {v : Value} {P : List (List UInt8)} (h : Rs w v P) : Calls Tryz.prog 155 #[v] w (SaysC16 (Cuts16 P) w) := by
  obtain ⟨a, cp, rfl⟩ := h.form
  by_cases h2 : P.length = 2
  rotate_left
  · have h2' : ¬ (P.length : Int) = 2 := by omega
    have N : Hid (¬ Cuts16 P) := by
      rintro ⟨p, q, e, _⟩
      apply h2
      rw [e]; rfl
    clear h
    go_enter Tryz.func155, Tryz.ntmps155
    exact cut_no
  obtain ⟨p, q, rfl⟩ : ∃ p q, P = [p, q] := by
    match P, h2 with
    | [p, q], _ => exact ⟨p, q, rfl⟩
  clear h2
  have E : Hid (Cuts16 [p, q] ↔ CutP p q) := ⟨fun ⟨p', q', e, k⟩ => by simp only [List.cons.injEq, and_true] at e; obtain ⟨rfl, rfl⟩ := e; exact k, fun k => ⟨p, q, rfl, k⟩⟩
  obtain ⟨b, off, xa, xc, rfl, _, c0, _⟩ := h.at (i := 0) (by simp)
  obtain ⟨b', off', ya, yc, e, _, c1, _⟩ := h.at (i := 1) (by simp)
  simp at e
  obtain ⟨rfl, rfl⟩ := e
  have z0 : w.cell? ⟨b, off, none⟩ = some (.slice xa p.length xc) := c0
  have z1 : w.cell? ⟨b, off + 1, none⟩ = some (.slice ya q.length yc) := c1
  show Calls Tryz.prog 155 #[.slice (some ⟨b, off, none⟩) 2 cp] w _
  have E2 : Hid (CutP p q ↔ p.length ≤ 4096 ∧ q.length ≤ 4096 ∧ (q.length = 0 ∨ p.length = 4096)) := by
    show _ ↔ _
    unfold CutP
    rw [List.length_eq_zero_iff]
  have EE : Hid (Cuts16 [p, q] ↔ p.length ≤ 4096 ∧ q.length ≤ 4096 ∧ (q.length = 0 ∨ p.length = 4096)) := E.out.trans E2.out
  clear E E2 c0 c1 h
  generalize Cuts16 [p, q] = CC at EE
  generalize p.length = m at z0 EE
  generalize q.length = n at z1 EE
  go_enter Tryz.func155, Tryz.ntmps155
  go_wp2
  go_loopw [3, 12] (fun s i wr => ∃ r : Nat, i = .int .i64 (r : Int) ∧ wr = w ∧ ((r = 0 ∧ s = .int .i64 0) ∨ (r = 1 ∧ s = .int .i64 (m : Int) ∧ Hid (m ≤ 4096)) ∨ (r = 2 ∧ Hid CC))) (fun _ i _ => 2 - (intOf i).toNat)
  case atStart => exact ⟨0, rfl, rfl, Or.inl ⟨rfl, rfl⟩⟩
  case round =>
    obtain ⟨r, rfl, rfl, ⟨rfl, rfl⟩ | ⟨rfl, rfl, hm⟩ | ⟨rfl, Y⟩⟩ := hrel
    · by_cases hm : (m : Int) > 4096
      · have N : Hid (¬ CC) := fun k => by have := (EE.out.1 k).1; omega
        clear EE
        exact cut_no
      · by_cases h0 : (m : Int) > 0
        · go_wp2
          go_roundw
          case rel => exact ⟨1, rfl, by first | rfl | trivial, Or.inr (Or.inl ⟨rfl, rfl, by show _ ≤ _; omega⟩)⟩
          case measure => simp [intOf]
        · go_wp2
          go_roundw
          case rel => exact ⟨1, rfl, by first | rfl | trivial, Or.inr (Or.inl ⟨rfl, rfl, by show _ ≤ _; omega⟩)⟩
          case measure => simp [intOf]
    · have hm' := hm.out
      by_cases hn : (n : Int) > 4096
      · have N : Hid (¬ CC) := fun k => by have := (EE.out.1 k).2.1; omega
        clear EE
        exact cut_no
      by_cases h0 : (n : Int) > 0
      · by_cases hf : (m : Int) = 4096
        · have Y : Hid CC := EE.out.2 (by omega)
          clear EE
          go_wp2
          go_roundw
          case rel => exact ⟨2, rfl, by first | rfl | trivial, Or.inr (Or.inr ⟨rfl, Y⟩)⟩
          case measure => simp [intOf]
        · have N : Hid (¬ CC) := fun k => by have := (EE.out.1 k).2.2; omega
          have hf' : ((m : Int) == 4096) = false := beq_eq_false_iff_ne.2 hf
          clear EE
          exact cut_no
      · have Y : Hid CC := EE.out.2 (by omega)
        clear EE
        by_cases hf : (m : Int) = 4096
        · go_wp2
          go_roundw
          case rel => exact ⟨2, rfl, by first | rfl | trivial, Or.inr (Or.inr ⟨rfl, Y⟩)⟩
          case measure => simp [intOf]
        · have hf' : ((m : Int) == 4096) = false := beq_eq_false_iff_ne.2 hf
          go_wp2
          go_roundw
          case rel => exact ⟨2, rfl, by first | rfl | trivial, Or.inr (Or.inr ⟨rfl, Y⟩)⟩
          case measure => simp [intOf]
    · clear EE
      go_wp2
      go_ret
      exact SaysC16.yes Y.out
set_option maxRecDepth 100000 in
set_option maxHeartbeats 2000000 in
theorem uns16_far {w : World} {v : Value} {P : List (List UInt8)} (h : Rs w v P) (hl : P.length ≤ 1000) : Calls Tryz.prog 113 #[v] w (UnP16F w P) := by
  have K0 := areCut16_any h
  obtain ⟨a, cp, rfl⟩ := h.form
  go_enter Tryz.func113, Tryz.ntmps113
  go_wp2_with fail
  refine K0.mono ?_
  rintro _ w2 ⟨x, rfl, hx, rfl⟩
  have HX : Hid (x = true ↔ Cuts16 P) := hx
  clear K0 hx
  cases x with
  | false =>
    have N : Hid (∀ l, ¬ IsP P l) := fun l ⟨p, q, e, k, _⟩ => by
      have := HX.out.2 ⟨p, q, e, k⟩
      cases this
    clear HX h
    go_wp2
    exact bodyPost_ret (v := .tuple #[.slice none 0 0, .int .i64 160]) (by simp [results, Tryz.results113, go_sem]) rfl (Or.inr ⟨N.out, rfl, Below.refl _ _⟩)
  | true =>
    obtain ⟨p, q, e, hc⟩ := HX.out.1 rfl
    subst e
    have fl : [p, q].flatten = p ++ q := by simp
    have l1 : (p ++ q).length ≤ 8192 := by rw [List.length_append]; have := hc.1; have := hc.2.1; omega
    have K1 := ccatb_any h (by rw [fl]; omega) (by simp)
    rw [fl] at K1
    have HC : Hid (CutP p q) := hc
    clear HX hc fl
    go_wp2_with fail
    refine K1.mono ?_
    rintro _ w3 ⟨v3, rfl, o3, B3⟩
    clear K1
    have R3 : Rd w3 v3 (p ++ q) := Rd.owned o3
    have K2 := rwo16_any R3 (by omega)
    have lp : (p ++ q).length ≤ 100000 := by omega
    clear o3
    obtain ⟨a3, c3, e3⟩ := R3.form
    rw [e3] at K2
    rw [e3]
    generalize (p ++ q).length = m3 at K2
    clear e3 R3 v3 h
    go_wp2_with fail
    refine K2.mono ?_
    rintro _ w4 (⟨L, u, hb, rfl, hr, B4⟩ | ⟨hn, rfl, B4⟩)
    · have FIN : Hid (UnP16F w2 [p, q] (.returned (.tuple #[u, .int .i64 0])) w4) := Or.inl ⟨L, u, isB_isP.2 ⟨HC.out, hb⟩, rfl, hr.mono B3.size, B3.step16 B4 B3.size⟩
      obtain ⟨la, lc, el⟩ := hr.form
      subst el
      clear hb hr K2
      go_wp2
      exact bodyPost_ret (v := .tuple #[.slice la L.length lc, .int .i64 0]) (by simp [results, Tryz.results113, go_sem]) rfl FIN.out
    · have FIN : Hid (UnP16F w2 [p, q] (.returned (.tuple #[.slice none 0 0, .int .i64 160])) w4) := Or.inr ⟨fun l k => hn l (isB_isP.1 k).2, rfl, B3.step16 B4 B3.size⟩
      clear hn K2
      go_wp2
      exact bodyPost_ret (v := .tuple #[.slice none 0 0, .int .i64 160]) (by simp [results, Tryz.results113, go_sem]) rfl FIN.out
end Go.Proofs.YtclieefpnbdbjaaGreat.Gf
