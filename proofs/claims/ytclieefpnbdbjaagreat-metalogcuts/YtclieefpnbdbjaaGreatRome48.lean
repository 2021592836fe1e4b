/- TEXTS JOINED: MeLaid, MeSml. -/
import Derived.Deep.RegionWith
import Derived.Test.YtclieefpnbdbjaaGreatRome37
import Derived.Test.YtclieefpnbdbjaaGreatRome41
import Derived.Test.YtclieefpnbdbjaaGreatRome45
import Derived.Test.YtclieefpnbdbjaaGreatRome15
namespace Go.Proofs.YtclieefpnbdbjaaGreat.Gf
set_option linter.unusedVariables false
set_option linter.unusedSimpArgs false
open Go.RowKit
def ldl (n : Nat) : List Int := (List.range n).map fun (i : Nat) => (i : Int)
theorem ldl_length (n : Nat) : (ldl n).length = n := by simp [ldl]
theorem ldl_getD {n i : Nat} (h : i < n) : (ldl n).getD i 0 = (i : Int) := by simp [ldl, List.getD, h]
def Laid18 (w : World) (g : GeoS) (ep : Int) (A2 : ArS) (X : Int) (R : List RcS) (e : Ending) (w' : World) : Prop :=
  ((X = 0 ∧ ∃ ab GA, e = .returned (.tuple #[.pointer (some ⟨ab, 0, none⟩), .int .i64 (((ldA A2 g ep R (min 20 R.length)).2 : Nat) : Int)]) ∧ ArB w' w.heap.size ab GA (ldA A2 g ep R (min 20 R.length)).1) ∨ (¬ X = 0 ∧ e = .returned (.tuple #[.pointer none, .int .i64 0]))) ∧ Below w.heap.size w w'
theorem ld_le (a : ArS) (g : GeoS) (ep : Int) (l : List RcS) : ∀ r, (ldA a g ep l r).2 ≤ r
  | 0 => Nat.le_refl _
  | r + 1 => by
    have ih := ld_le a g ep l r
    have e : (ldA a g ep l (r + 1)).2 = if apX (ldA a g ep l r).1 g ep ((ldA a g ep l r).2 : Int) (l.getD r default) = 0 then (ldA a g ep l r).2 + 1 else (ldA a g ep l r).2 := rfl
    rw [e]
    split
    · omega
    · omega
theorem info_intD : ∃ i, Tryz.prog.info? 3 = some i ∧ i.zero = some (.int .i64 0) ∧ i.size = 1 ∧ i.bytes = 8 := by
  have h : (Tryz.prog.info? 3).map (fun i => (i.zero, i.size, i.bytes)) = some (some (.int .i64 0), 1, 8) := by kernel_rfl
  cases e : Tryz.prog.info? 3 with
  | none => rw [e] at h; cases h
  | some i =>
    rw [e] at h
    simp only [Option.map_some, Option.some.injEq, Prod.mk.injEq] at h
    exact ⟨i, rfl, h.1, h.2.1, h.2.2⟩
set_option maxRecDepth 100000 in
set_option maxHeartbeats 8000000 in
theorem laid18_any {w : World} {g : GeoS} (hg : g.Wf) (hok : okG g) {ar ep : Int} (haw : (Lit.int .i64 ar).wf = true) {vs : Value} {L : List ObV} (ho : RdO w vs L) (hs : ∀ i, i < L.length → (L.getD i default).o.st.length ≤ 1000000) {lv : Value} {M : List RcV} (hl : RdR w lv M) :
    Calls Tryz.prog 15 #[aggG g, .agg #[.int .i64 ar, .int .i64 ep, vs], lv] w (Laid18 w g ep (svS (lbS (newA (nT g) (secG g).toNat) (ldl (nT g))) g ar ep (oL L)) (svX (lbS (newA (nT g) (secG g).toNat) (ldl (nT g))) g ar ep (oL L)) (M.map (·.r))) := by
  obtain ⟨va, vc, rfl⟩ := ho.form
  obtain ⟨la, lc, rfl⟩ := hl.form
  have HO := hidI ho
  have HL := hidI hl
  clear ho hl
  have zz := okG_nat hok
  have sec := sec_in hok
  obtain ⟨sc, hsc⟩ : ∃ sc, Hid (secG g = sc) := ⟨_, rfl⟩
  rw [hsc.out] at sec ⊢
  have n1 : 1 ≤ nT g ∧ nT g ≤ 32 := ⟨nT_pos hok, zz.2.2.2.2.1⟩
  have ekm : g.k + g.m = ((nT g : Nat) : Int) := zz.2.2.2.2.2.2.2.symm
  obtain ⟨n, hn⟩ : ∃ n, Hid (nT g = n) := ⟨_, rfl⟩
  rw [hn.out] at n1 ekm ⊢
  have KZ := fun W => @lsec_any W g hg _ hsc.out
  have KN := fun W => @anew_is W (n : Int) sc n rfl n1.1 n1.2 sec.2.1 sec.2.2 sc.toNat rfl
  obtain ⟨A0, hA0⟩ : ∃ A, newA n sc.toNat = A := ⟨_, rfl⟩
  have KN' : ∀ W, Calls Tryz.prog _ #[.int .i64 (n : Int), .int .i64 sc] W fun e w' => ∃ ab GA, e = .returned (.tuple #[.pointer (some ⟨ab, 0, none⟩), .int .i64 0]) ∧ ArAt w' ab GA A0 ∧ (∀ k, GA k → W.heap.size ≤ k) ∧ Below W.heap.size W w' := fun W => by rw [← hA0]; exact KN W
  rw [hA0]
  have KB := fun W ab GA (h : ArAt W ab GA A0) dv (hd : ∀ W', TurnG GA W W' → RdI W' dv (ldl n)) => mlabelA_any h hd (by rw [ldl_length]; omega) (fun i hi => by rw [ldl_length] at hi; rw [ldl_getD hi]; exact wf64 (by omega) (by omega))
  obtain ⟨A1, hA1⟩ : ∃ A, lbS A0 (ldl n) = A := ⟨_, rfl⟩
  obtain ⟨XL, hXL⟩ : ∃ A, lbX A0 (ldl n) = A := ⟨_, rfl⟩
  rw [hA1, hXL] at KB
  rw [hA1]
  have KS := fun W ab GA (h : ArAt W ab GA A1) (b : RdO W (.slice va L.length vc) L) => msave_any h hg haw (ep := ep) b hs
  obtain ⟨A2, hA2⟩ : ∃ A, svS A1 g ar ep (oL L) = A := ⟨_, rfl⟩
  obtain ⟨X, hX⟩ : ∃ A, svX A1 g ar ep (oL L) = A := ⟨_, rfl⟩
  rw [hA2, hX] at KS
  rw [hA2, hX]
  have KP := fun W ab GA a (h : ArAt W ab GA a) (cn : Int) (hc : (Lit.int .i64 cn).wf = true) (c : RcV) (hin : c.In W) => mappend_any h hg (base := ep) hc hin
  obtain ⟨R, hR⟩ : ∃ R, Hid (M.map (·.r) = R) := ⟨_, rfl⟩
  have RL : Hid (R.length = M.length) := by show _ = _; rw [← hR.out, List.length_map]
  have RA : Hid (∀ r, r < M.length → R.getD r default = (M.getD r default).r) := fun r hr => by rw [← hR.out]; simp [List.getD, hr]
  rw [hR.out]
  have T2 := two18s w g ar ep (.slice va L.length vc) 23 41
  have LE := hidI (ld_le A2 g ep R)
  have STEP : Hid (∀ r, ldA A2 g ep R (r + 1) = (apS (ldA A2 g ep R r).1 g ep ((ldA A2 g ep R r).2 : Int) (R.getD r default), if apX (ldA A2 g ep R r).1 g ep ((ldA A2 g ep R r).2 : Int) (R.getD r default) = 0 then (ldA A2 g ep R r).2 + 1 else (ldA A2 g ep R r).2)) := fun r => rfl
  have ST0 : Hid (ldA A2 g ep R 0 = (A2, 0)) := rfl
  have N1 := hidI n1
  clear hsc hn hA0 hA1 hXL hA2 hX hR sec zz KN n1 hok hs haw hg
  obtain ⟨W, hW⟩ : ∃ W, W = (w.alloc (.cells #[.int .i64 g.k, .int .i64 g.m, .int .i64 g.z, .int .i64 g.s, .int .i64 g.t, .int .i64 g.o] 23)).alloc (.cells #[.int .i64 ar, .int .i64 ep, .slice va L.length vc] 41) := ⟨_, rfl⟩
  have T3 : Hid (∀ V, Below W.heap.size W V → (GeoAt V w.heap.size g ∧ Below w.heap.size w V) ∧ V.cell? ⟨w.heap.size + 1, 0, none⟩ = some (.int .i64 ar) ∧ V.cell? ⟨w.heap.size + 1, 1, none⟩ = some (.int .i64 ep) ∧ V.cell? ⟨w.heap.size + 1, 2, none⟩ = some (.slice va L.length vc)) := by rw [hW]; exact T2
  clear T2
  obtain ⟨LAD, hLAD⟩ : ∃ F : Nat → ArS × Nat, Hid (ldA A2 g ep R = F) := ⟨_, rfl⟩
  rw [hLAD.out] at LE STEP ST0
  have GOAL : Hid (∀ e w', Laid18 w g ep A2 X R e w' ↔ ((X = 0 ∧ ∃ ab GA, e = .returned (.tuple #[.pointer (some ⟨ab, 0, none⟩), .int .i64 (((LAD (min 20 M.length)).2 : Nat) : Int)]) ∧ ArB w' w.heap.size ab GA (LAD (min 20 M.length)).1) ∨ (¬ X = 0 ∧ e = .returned (.tuple #[.pointer none, .int .i64 0]))) ∧ Below w.heap.size w w') := fun e w' => by
    unfold Laid18
    rw [hLAD.out, RL.out]
  have gk : IntKind.i64.wrap (g.k + g.m) = (n : Int) := by rw [ekm, IntKind.wrap_i64]; have := N1.out; omega
  clear ekm
  obtain ⟨k, m, z, s, t, o⟩ := g
  simp only at gk hW
  rw [aggE] at KZ KS KP ⊢
  obtain ⟨⟨⟨y0, y1, y2, y3, y4, y5⟩, _⟩, e0, e1, e2⟩ := T3.out W (Below.refl _ _)
  simp only at y0 y1 y2 y3 y4 y5
  go_enter Tryz.func15, Tryz.ntmps15
  go_wp2_with fail
  rw [← hW]
  clear hW
  refine (KZ _).mono ?_
  rintro _ v1 ⟨rfl, B1⟩
  clear KZ y0 y1 y2 y3 y4 y5 e0 e1 e2
  go_wp2_with fail
  refine (KN' _).mono ?_
  rintro _ u1 ⟨ab, GA, rfl, P1, H1, b1⟩
  have SA : Hid (ArB u1 W.heap.size ab GA A0) := ⟨P1, fun k hk => Nat.le_trans B1.size (H1 k hk), Nat.le_trans B1.size b1.size⟩
  have BA := hidI (B1.step16 b1 B1.size)
  have wq : Hid (w.heap.size ≤ W.heap.size) := (T3.out W (Below.refl _ _)).1.2.size
  obtain ⟨i0, hi, hz0, hz1, hz2⟩ := info_intD
  clear KN' P1 H1 b1 B1
  go_wp2_with fail
  go_loopw [11, 12] (fun ov i wr => ∃ r : Nat, r ≤ n ∧ i = .int .i64 (r : Int) ∧ OwnI wr u1.heap.size 3 ov (List.range r) ∧ Below u1.heap.size u1 wr) (fun _ i _ => n - (intOf i).toNat)
  case atStart => exact ⟨0, Nat.zero_le _, rfl, OwnI.nil _ _ _, Below.refl _ _⟩
  case round =>
    obtain ⟨r, hr, rfl, hO, hB⟩ := hrel
    obtain ⟨O, hOO⟩ : ∃ O, Hid (O = List.range r) := ⟨_, rfl⟩
    rw [← hOO.out] at hO
    obtain ⟨oa, oc, rfl⟩ := hO.form
    have n32 : n ≤ 32 := N1.out.2
    have ol : Hid (O.length ≤ 100000) := by show _ ≤ _; rw [hOO.out, List.length_range]; have := N1.out; omega
    by_cases hlt : r < n
    · have hlt' : (r : Int) < (n : Int) := by omega
      have P2 : Hid (List.range (r + 1) = O ++ [r]) := by show _ = _; rw [hOO.out, List.range_succ]
      have hsz := hB.size
      clear hOO
      go_wp2_with (at_builtin; go_loud (refine wpList_append_int rfl (.tmp 38) (.tmp 40) 35 rfl u1.heap.size 3 i0 Tryz.underlying35 hi hz0 hz1 hz2 (.slice oa O.length oc) O rfl hO r _ 1 rfl ol.out hsz ?_); intro v9 w9 h9 b9)
      have E3 : Hid (OwnI w9 u1.heap.size 3 v9 (List.range (r + 1)) ∧ Below u1.heap.size u1 w9) := ⟨by rw [P2.out]; exact h9, hB.trans b9⟩
      clear h9 b9 hO hB hsz
      go_wp2
      go_roundw
      case rel => exact ⟨r + 1, by omega, by go_num, E3.out.1, E3.out.2⟩
      case measure => simp [intOf]; omega
    · obtain rfl : r = n := by omega
      have hge : ¬ (r : Int) < (r : Int) := by omega
      have S2 := hidI (SA.out.below hB)
      have BW2 := hidI (BA.out.step16 hB BA.out.size)
      have RI : ∀ W', TurnG GA wr W' → RdI W' (.slice oa O.length oc) (ldl r) := fun W' t => by
        have h := hO.rd (by have := ol.out; omega)
        have e : toI O = ldl r := by rw [hOO.out]; rfl
        rw [← e]
        exact h.turnG (ApartG.own hO SA.out.at_.lt) t
      have K := KB wr ab GA S2.out.at_ _ RI
      clear RI hO hB SA BA hOO ol hi hz0 hz1 hz2 KB
      go_wp2_with fail
      refine K.mono ?_
      rintro _ u2 ⟨rfl, G2, P2, g2⟩
      have S3 := hidI (S2.out.grew P2 g2)
      have B3 := hidI (BW2.out.trans (S2.out.bel g2))
      obtain ⟨⟨⟨y0, y1, y2, y3, y4, y5⟩, Bw⟩, e0, e1, e2⟩ := T3.out u2 B3.out
      simp only at y0 y1 y2 y3 y4 y5
      have K2 := KS u2 ab G2 S3.out.at_ (HO.out.below Bw)
      clear K P2 g2 S2 BW2 Bw KS
      go_wp2_with fail
      refine K2.mono ?_
      rintro _ u3 ⟨rfl, G3, P3, g3⟩
      have S4 := hidI (S3.out.grew P3 g3)
      have B4 := hidI (B3.out.trans (S3.out.bel g3))
      clear K2 P3 g3 S3 B3 y0 y1 y2 y3 y4 y5 e0 e1 e2
      by_cases hx : X = 0
      rotate_left
      · have q1 : (X == 0) = false := beq_eq_false_iff_ne.2 hx
        have q2 : (X != 0) = true := by simp [bne, q1]
        have F : Hid (Laid18 w ⟨k, m, z, s, t, o⟩ ep A2 X R (.returned (.tuple #[.pointer none, .int .i64 0])) u3) := (GOAL.out _ _).2 ⟨Or.inr ⟨hx, rfl⟩, (T3.out u3 B4.out).1.2⟩
        clear GOAL S4 B4 T3 KP LE STEP ST0 RA RL HO HL
        go_wp2
        exact bodyPost_ret (v := .tuple #[.pointer none, .int .i64 0]) (by simp [results, Tryz.results15, go_sem]) rfl F.out
      subst hx
      go_wp2_with fail
      go_loopw [13, 14] (fun cv i wr => ∃ (q : Nat) (G : Nat → Prop), q ≤ M.length ∧ q ≤ 20 ∧ i = .int .i64 (q : Int) ∧ cv = .int .i64 (((LAD q).2 : Nat) : Int) ∧ Hid (ArB wr W.heap.size ab G (LAD q).1) ∧ Hid (Below W.heap.size W wr)) (fun _ i _ => M.length - (intOf i).toNat)
      case atStart => exact ⟨0, G3, Nat.zero_le _, Nat.zero_le _, rfl, (by rw [ST0.out]; rfl), (by rw [ST0.out]; exact S4.out), B4.out⟩
      case round =>
        clear S4 B4
        obtain ⟨q, G, hq, hq2, rfl, rfl, hS, hB⟩ := hrel
        have Bw := (T3.out wr hB.out).1.2
        have FIN : Hid (min 20 M.length = q → Laid18 w ⟨k, m, z, s, t, o⟩ ep A2 0 R (.returned (.tuple #[.pointer (some ⟨ab, 0, none⟩), .int .i64 (((LAD q).2 : Nat) : Int)])) wr) := fun e => (GOAL.out _ _).2 ⟨Or.inl ⟨(by first | rfl | trivial), ab, G, by rw [e], by rw [e]; exact ⟨hS.out.at_, fun k hk => Nat.le_trans wq.out (hS.out.low k hk), Nat.le_trans wq.out hS.out.size⟩⟩, Bw⟩
        by_cases c1 : q < M.length
        rotate_left
        · have c1' : ¬ (q : Int) < (M.length : Int) := by omega
          have F := hidI (FIN.out (by omega))
          clear FIN hS hB Bw GOAL T3 KP LE STEP ST0 RA RL HO HL
          go_wp2
          exact bodyPost_ret (v := .tuple #[.pointer (some ⟨ab, 0, none⟩), .int .i64 (((LAD q).2 : Nat) : Int)]) (by simp [results, Tryz.results15, go_sem]) rfl F.out
        have c1' : (q : Int) < (M.length : Int) := by omega
        by_cases c2 : q < 20
        rotate_left
        · have c2' : ¬ (q : Int) < 20 := by omega
          have F := hidI (FIN.out (by omega))
          clear FIN hS hB Bw GOAL T3 KP LE STEP ST0 RA RL HO HL
          go_wp2
          exact bodyPost_ret (v := .tuple #[.pointer (some ⟨ab, 0, none⟩), .int .i64 (((LAD q).2 : Nat) : Int)]) (by simp [results, Tryz.results15, go_sem]) rfl F.out
        have c2' : (q : Int) < 20 := by omega
        obtain ⟨b, off, eva, hb, cz⟩ := HL.out.at c1
        subst eva
        have SR := hidI (STEP.out q)
        rw [RA.out q c1] at SR
        have LEq := LE.out q
        generalize M.getD q default = c at cz SR
        obtain ⟨P, hP⟩ : ∃ P, LAD q = P := ⟨_, rfl⟩
        rw [hP] at SR LEq hS ⊢
        clear hP FIN
        obtain ⟨aR, cR⟩ := P
        simp only at SR LEq hS
        obtain ⟨⟨kd, ky, ln, st⟩, vs⟩ := c
        obtain ⟨a2, c2v, e⟩ := cz.ok.rs.form
        simp only at e
        subst e
        have CELLS : Hid (∀ V, Below W.heap.size W V → V.cell? ⟨w.heap.size, 0, none⟩ = some (.int .i64 k) ∧ V.cell? ⟨w.heap.size, 1, none⟩ = some (.int .i64 m) ∧ V.cell? ⟨w.heap.size, 2, none⟩ = some (.int .i64 z) ∧ V.cell? ⟨w.heap.size, 3, none⟩ = some (.int .i64 s) ∧ V.cell? ⟨w.heap.size, 4, none⟩ = some (.int .i64 t) ∧ V.cell? ⟨w.heap.size, 5, none⟩ = some (.int .i64 o) ∧ V.cell? ⟨w.heap.size + 1, 1, none⟩ = some (.int .i64 ep) ∧ V.cell? ⟨b, off + q * 4, none⟩ = some (.int .i64 kd) ∧ V.cell? ⟨b, off + q * 4 + 1, none⟩ = some (.string ⟨ky.toArray⟩) ∧ V.cell? ⟨b, off + q * 4 + 2, none⟩ = some (.int .i64 ln) ∧ V.cell? ⟨b, off + q * 4 + 3, none⟩ = some (.slice a2 st.length c2v)) := fun V bV => by
          obtain ⟨⟨⟨y0, y1, y2, y3, y4, y5⟩, BV⟩, e0, e1, e2⟩ := T3.out V bV
          have cv := cz.below hb BV
          exact ⟨y0, y1, y2, y3, y4, y5, e1, cv.c0, cv.c1, cv.c2, cv.c3⟩
        have BD : Below wr.heap.size wr wr.drew := (Below.refl _ _).drew
        have hSD := hidI (hS.out.below BD)
        have BDW := hidI (hB.out.step16 BD hB.out.size)
        have IN := (cz.below hb ((T3.out _ BDW.out).1.2)).ok
        have KX := KP wr.drew ab G aR hSD.out.at_ (cR : Int) (wf64 (by omega) (by omega)) _ IN
        obtain ⟨x', hx'⟩ : ∃ x', Hid (apX aR ⟨k, m, z, s, t, o⟩ ep (cR : Int) ⟨kd, ky, ln, st⟩ = x') := ⟨_, rfl⟩
        obtain ⟨aN, haN⟩ : ∃ aN, Hid (apS aR ⟨k, m, z, s, t, o⟩ ep (cR : Int) ⟨kd, ky, ln, st⟩ = aN) := ⟨_, rfl⟩
        have KX' : Calls Tryz.prog 28 #[.pointer (some ⟨ab, 0, none⟩), .agg #[.int .i64 k, .int .i64 m, .int .i64 z, .int .i64 s, .int .i64 t, .int .i64 o], .int .i64 ep, .int .i64 (cR : Int), .agg #[.int .i64 kd, .string ⟨ky.toArray⟩, .int .i64 ln, .slice a2 st.length c2v]] wr.drew (LeavesA wr.drew ab G aN (.int .i64 x')) := by
          rw [← hx'.out, ← haN.out]; exact KX
        replace SR : Hid (LAD (q + 1) = (aN, if x' = 0 then cR + 1 else cR)) := by
          show _ = _
          rw [SR.out, ← hx'.out, ← haN.out]
        have CL := CELLS.out _ BDW.out
        clear hx' haN KX IN cz hS T3 KP GOAL STEP ST0 LE RA RL HO HL Bw BD
        go_wp2_with fail
        go_region_held3 (fun V => V.cell? ⟨w.heap.size, 0, none⟩ = some (.int .i64 k) ∧ V.cell? ⟨w.heap.size, 1, none⟩ = some (.int .i64 m) ∧ V.cell? ⟨w.heap.size, 2, none⟩ = some (.int .i64 z) ∧ V.cell? ⟨w.heap.size, 3, none⟩ = some (.int .i64 s) ∧ V.cell? ⟨w.heap.size, 4, none⟩ = some (.int .i64 t) ∧ V.cell? ⟨w.heap.size, 5, none⟩ = some (.int .i64 o) ∧ V.cell? ⟨w.heap.size + 1, 1, none⟩ = some (.int .i64 ep) ∧ V.cell? ⟨b, off + q * 4, none⟩ = some (.int .i64 kd) ∧ V.cell? ⟨b, off + q * 4 + 1, none⟩ = some (.string ⟨ky.toArray⟩) ∧ V.cell? ⟨b, off + q * 4 + 2, none⟩ = some (.int .i64 ln) ∧ V.cell? ⟨b, off + q * 4 + 3, none⟩ = some (.slice a2 st.length c2v)) (first | exact CL | exact m2) (first
          | (go_at_call 28; (refine KX'.mono ?_); rintro _ v2 ⟨rfl, G5, P5, g5⟩; have S5 := hidI (hSD.out.grew P5 g5); have B5 := hidI (BDW.out.trans (hSD.out.bel g5)); have m2 := CELLS.out _ B5.out))
        all_goals
          clear KX' CL m2 P5 g5 hSD BDW hB CELLS
          by_cases hx : x' = 0
          · subst hx
            rw [if_pos rfl] at SR
            go_wp2
            go_roundw
            case rel => exact ⟨q + 1, G5, by omega, by omega, by go_num, (by rw [SR.out]; go_num), (by rw [SR.out]; exact S5.out), B5.out⟩
            case measure => simp [intOf]; omega
          · have q1 : (x' == 0) = false := beq_eq_false_iff_ne.2 hx
            rw [if_neg hx] at SR
            go_wp2
            go_roundw
            case rel => exact ⟨q + 1, G5, by omega, by omega, by go_num, (by rw [SR.out]), (by rw [SR.out]; exact S5.out), B5.out⟩
            case measure => simp [intOf]; omega
end Go.Proofs.YtclieefpnbdbjaaGreat.Gf

namespace Go.Proofs.YtclieefpnbdbjaaGreat.Gf
set_option linter.unusedVariables false
set_option linter.unusedSimpArgs false
open Go.RowKit
def smO (o : ObS) : Prop := o.key.length ≤ 100 ∧ o.st.length ≤ 20
instance (o : ObS) : Decidable (smO o) := inferInstanceAs (Decidable (_ ∧ _))
/-- is a call's load little? -/
def smM (dl kl ky st : Nat) (L : List ObS) : Prop := dl ≤ 20 ∧ kl ≤ 40 ∧ ky ≤ 100 ∧ st ≤ 20 ∧ L.length ≤ 20 ∧ ∀ o ∈ L, smO o
instance (dl kl ky st : Nat) (L : List ObS) : Decidable (smM dl kl ky st L) := inferInstanceAs (Decidable (_ ∧ _ ∧ _ ∧ _ ∧ _ ∧ _))
theorem sm_st {dl kl ky st : Nat} {L : List ObV} (h : smM dl kl ky st (oL L)) : L.length ≤ 20 ∧ ∀ i, i < L.length → (L.getD i default).o.st.length ≤ 20 := by
  obtain ⟨_, _, _, _, h5, h6⟩ := h
  refine ⟨by simpa [oL] using h5, fun i hi => ?_⟩
  rw [show L.getD i default = L[i] by simp [List.getD, hi]]
  exact (h6 _ (List.mem_map.2 ⟨L[i], List.getElem_mem hi, rfl⟩)).2
theorem sm_no {p : Prop} (h : p := by
  obtain rfl : x = false := by
    rw [← HX.out]
    exact decide_eq_false (fun q => by obtain ⟨q1, q2, q3, q4, q5, q6⟩ := q; rw [oL_length] at q5; omega)
  clear HX HO
  go_enter Tryz.func11, Tryz.ntmps11
  go_wp2
  go_ret
  exact ⟨rfl, belR _ _⟩) : p := h
set_option maxRecDepth 100000 in
set_option maxHeartbeats 4000000 in
theorem msmall18_any {w : World} {k n m : Int} {da ka sa oa ba ca : Option Addr} {dl dc kl kc sl sc oc bl bc cl cc : Nat} {rk rl ar ep : Int} {ky : List UInt8} {L : List ObV} {q0 q1 q2 q3 q4 : Int} {x : Bool} (ho : RdO w (.slice oa L.length oc) L) (hx : decide (smM dl kl ky.length sl (oL L)) = x) :
    Calls Tryz.prog 11 #[.agg #[.int .i64 k, .int .i64 n, .int .i64 m, .slice da dl dc, .slice ka kl kc, .int .i64 rk, .string ⟨ky.toArray⟩, .int .i64 rl, .slice sa sl sc, .int .i64 ar, .int .i64 ep, .slice oa L.length oc, .int .i64 q0, .int .i64 q1, .int .i64 q2, .int .i64 q3, .int .u8 q4, .slice ba bl bc, .slice ca cl cc]] w fun e w' => e = .returned (.bool x) ∧ Below w.heap.size w w' := by
  have HX : Hid (decide (smM dl kl ky.length sl (oL L)) = x) := hx
  have HO : Hid (RdO w (.slice oa L.length oc) L) := ho
  clear hx ho
  by_cases h1 : (dl : Int) > 20
  · exact sm_no
  by_cases h2 : (kl : Int) > 40
  · exact sm_no
  by_cases h3 : (ky.length : Int) > 100
  · exact sm_no
  by_cases h4 : (sl : Int) > 20
  · exact sm_no
  by_cases h5 : (L.length : Int) > 20
  · exact sm_no
  have HY : Hid ((∀ i, i < L.length → smO (L.getD i default).o) → x = true) := fun q => by
    rw [← HX.out]
    refine decide_eq_true ⟨by omega, by omega, by omega, by omega, by rw [oL_length]; omega, fun o ho => ?_⟩
    obtain ⟨c, hc, rfl⟩ := List.mem_map.1 ho
    obtain ⟨i, hi, e⟩ := List.getElem_of_mem hc
    have := q i hi
    rw [show L.getD i default = L[i] by simp [List.getD, hi], e] at this
    exact this
  have HN : Hid (∀ i, i < L.length → ¬ smO (L.getD i default).o → x = false) := fun i hi q => by
    rw [← HX.out]
    refine decide_eq_false fun h => q ?_
    obtain ⟨_, _, _, _, _, h6⟩ := h
    rw [show L.getD i default = L[i] by simp [List.getD, hi]]
    exact h6 _ (List.mem_map.2 ⟨L[i], List.getElem_mem hi, rfl⟩)
  obtain ⟨u, hu⟩ : ∃ u, u = w.alloc (.cells #[.int .i64 k, .int .i64 n, .int .i64 m, .slice da dl dc, .slice ka kl kc, .int .i64 rk, .string ⟨ky.toArray⟩, .int .i64 rl, .slice sa sl sc, .int .i64 ar, .int .i64 ep, .slice oa L.length oc, .int .i64 q0, .int .i64 q1, .int .i64 q2, .int .i64 q3, .int .u8 q4, .slice ba bl bc, .slice ca cl cc] 47) := ⟨_, rfl⟩
  have x11 : u.cell? ⟨w.heap.size, 11, none⟩ = some (.slice oa L.length oc) := by rw [hu]; exact World.cell?_alloc_new _ _ _ _
  have BU : Hid (Below w.heap.size w u) := by rw [hu]; exact belR _ _
  have RU : Hid (RdO u (.slice oa L.length oc) L) := HO.out.below BU.out
  have h6 : L.length ≤ 20 := by omega
  clear HX HO
  go_enter Tryz.func11, Tryz.ntmps11
  go_wp2
  rw [← hu]
  clear hu
  go_loopw [3] (fun i wr => ∃ r : Nat, r ≤ L.length ∧ i = .int .i64 (r : Int) ∧ wr = u ∧ Hid (∀ j, j < r → smO (L.getD j default).o)) (fun i _ => L.length - (intOf i).toNat)
  case atStart => exact ⟨0, Nat.zero_le _, rfl, rfl, fun j hj => absurd hj (Nat.not_lt_zero _)⟩
  case round =>
    obtain ⟨r, hr, rfl, rfl, hj⟩ := hrel
    by_cases hlt : r < L.length
    · have hlt' : (r : Int) < (L.length : Int) := by omega
      obtain ⟨b, off, eoa, hb, oat⟩ := RU.out.at hlt
      subst eoa
      have NO := hidI (HN.out r hlt)
      have NX : Hid (smO (L.getD r default).o → ∀ j, j < r + 1 → smO (L.getD j default).o) := fun q j hj2 => by
        by_cases e : j = r
        · rw [e]; exact q
        · exact hj.out j (by omega)
      obtain ⟨c, hc⟩ : ∃ c, Hid (L.getD r default = c) := ⟨_, rfl⟩
      rw [hc.out] at oat NO NX
      obtain ⟨⟨oky, oln, oep, ost⟩, ovs⟩ := c
      obtain ⟨ova, ovc, e⟩ := oat.rs.form
      simp only at e
      subst e
      have c0 : wr.cell? ⟨b, off + r * 4, none⟩ = some (.string ⟨oky.toArray⟩) := oat.c0
      have c3 : wr.cell? ⟨b, off + r * 4 + 3, none⟩ = some (.slice ova ost.length ovc) := oat.c3
      clear oat HY HN hj hc
      by_cases k1 : (oky.length : Int) > 100
      · obtain rfl : x = false := NO.out (fun q => by have h1 : oky.length ≤ 100 := q.1; omega)
        clear NO NX
        go_wp2
        exact bodyPost_ret (v := .bool false) (by simp [results, Tryz.results11, go_sem]) rfl ⟨rfl, BU.out⟩
      by_cases k2 : (ost.length : Int) > 20
      · obtain rfl : x = false := NO.out (fun q => by have h1 : ost.length ≤ 20 := q.2; omega)
        clear NO NX
        go_wp2
        exact bodyPost_ret (v := .bool false) (by simp [results, Tryz.results11, go_sem]) rfl ⟨rfl, BU.out⟩
      have NX2 := hidI (NX.out ⟨by show oky.length ≤ 100; omega, by show ost.length ≤ 20; omega⟩)
      clear NO NX
      go_wp2
      go_roundw
      case rel => exact ⟨r + 1, by omega, by go_num, trivial, NX2⟩
      case measure => simp [intOf]; omega
    · obtain rfl : r = L.length := by omega
      have hge : ¬ (L.length : Int) < (L.length : Int) := by omega
      obtain rfl : x = true := HY.out hj.out
      clear HY HN hj
      go_wp2
      exact bodyPost_ret (v := .bool true) (by simp [results, Tryz.results11, go_sem]) rfl ⟨rfl, BU.out⟩
end Go.Proofs.YtclieefpnbdbjaaGreat.Gf
