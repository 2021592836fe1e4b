/- TEXTS JOINED: StCW. -/
import Derived.Below
import Derived.OpenShut
import Derived.Lib.SmallJoins
import Derived.Test.YtddnfhfangfgeaaGreatChecked
import GoSem.Claim
import GoSem.ClaimJoined
import GoSem.ClaimMapViews
import Derived.JoinedTies
import Derived.KernelRfl
import Derived.WalkKit
import Derived.Deep.QuietTactic
import Derived.BigQuiet
import Derived.WalkLawsBesides
import Derived.WalkSpells
import Derived.Laws.CopyOwn
import Derived.Deep.AppendLies
import Derived.Deep.OwnRows
import Derived.Laws.AppendOwnNone
import Derived.Deep.RegionHeld3
import Derived.WalkMore
import Derived.Deep.RegionLaw
import Derived.Deep.RegionWith
import Derived.Deep.CutRange
import Derived.Deep.Slices
import Derived.Maps.OwnSet
import Derived.Maps.Ext
import Derived.Lib.SliceRun
import Derived.Maps.RangeWalk
import Derived.Shelf.SlIterI.Nil
import Derived.Shelf.SortM.Plain
import Derived.Shelf.SortM.SortNone
import Derived.Ground.GgzProg
import Derived.Ground.SlgmProg
import Derived.Laws.BytesArg
import Derived.Test.YtddnfhfangfgeaaGreatRows
import Derived.Test.YtddnfhfangfgeaaGreatTome36
import Derived.Test.YtddnfhfangfgeaaGreatTome2
import Derived.Test.YtddnfhfangfgeaaGreatTome31
import Derived.Test.YtddnfhfangfgeaaGreatTome37
import Derived.Test.YtddnfhfangfgeaaGreatTome10
import Derived.Test.YtddnfhfangfgeaaGreatTome27
import Derived.Test.YtddnfhfangfgeaaGreatTome34
import Derived.Test.YtddnfhfangfgeaaGreatTome38
import Derived.Test.YtddnfhfangfgeaaGreatTome39
import Derived.Test.YtddnfhfangfgeaaGreatTome33
import Derived.Test.YtddnfhfangfgeaaGreatTome29
import Derived.Test.YtddnfhfangfgeaaGreatTome35
namespace Go.Proofs.YtddnfhfangfgeaaGreat.Gf
set_option linter.unusedVariables false
set_option linter.unusedSimpArgs false
open Go.RowKit
/-- how many were written, and what is told -/
def wnT (a : ArS) (g : GeoS) (st ep : Int) (R : List (List UInt8)) (B : List Nat) : Nat := if pcT a g st ep R B = true then 0 else pnT a g st ep R B B.length
def wxT (a : ArS) (g : GeoS) (st ep : Int) (R : List (List UInt8)) (B : List Nat) : Int := if pcT a g st ep R B = true then 130 else 0
theorem wf_small {x : Int} (h0 : 0 ≤ x) (h1 : x ≤ 100000) : (Lit.int .i64 x).wf = true := by
  simp [Lit.wf, IntKind.min, IntKind.max, IntKind.signed, IntKind.bits]; omega
theorem getD_memN {B : List Nat} {r : Nat} (h : r < B.length) : B.getD r 0 ∈ B := by
  rw [show B.getD r 0 = B[r] by simp [List.getD, h]]
  exact List.getElem_mem h
set_option maxRecDepth 100000 in
set_option maxHeartbeats 4000000 in
theorem pwrite_any {w : World} {ab : Nat} {GA : Nat → Prop} {a : ArS} (h : ArAt w ab GA a) {pf : Option Addr} {g : GeoS} (hg : g.Wf) {st ep : Int} (hst : (Lit.int .i64 st).wf = true) (hT : OkT g st ep) {vs vi : Value} {R : List (List UInt8)} {B : List Nat} (hR : ToldL w GA vs R) (hI : ToldI w GA vi B) (hB : ∀ i, i ∈ B → i < nT g ∧ i < R.length) (hrow : ∀ i, i < R.length → (ro R i).length ≤ 4096) (hl : B.length ≤ 1000) :
    Calls Tryz.prog 52 #[aggP (some ⟨ab, 0, none⟩) pf g st ep, vs, vi] w (LeavesA w ab GA (psT a g st ep R B B.length) (.tuple #[.int .i64 ((wnT a g st ep R B : Nat) : Int), .int .i64 (wxT a g st ep R B)])) := by
  have zz := okG_nat hT.1
  have sin := stG_in hT.1 hT.2.1 hT.2.2.1
  obtain ⟨at_, t0⟩ : ∃ x, Hid (x = stG g st) := ⟨_, rfl⟩
  rw [← t0.out] at sin
  obtain ⟨AR, hAR⟩ : ∃ AR : Nat → ArS, Hid (AR = psT a g st ep R B) := ⟨_, rfl⟩
  obtain ⟨PN, hPN⟩ : ∃ PN : Nat → Nat, Hid (PN = pnT a g st ep R B) := ⟨_, rfl⟩
  have AR0 : Hid (AR 0 = a) := by show _ = _; rw [hAR.out]; rfl
  have PN0 : Hid (PN 0 = 0) := by show _ = _; rw [hPN.out]; rfl
  have ARs : Hid (∀ r, AR (r + 1) = puS (AR r) g st ep (B.getD r 0) (ro R (B.getD r 0))) := fun r => by rw [hAR.out]; rfl
  have PNs : Hid (∀ r, PN (r + 1) = PN r + (if puX (AR r) g st ep (B.getD r 0) (ro R (B.getD r 0)) = 0 then 1 else 0)) := fun r => by rw [hPN.out, hAR.out]; rfl
  have SX : Hid (∀ r, r < B.length → (AR r).off = true → wnT a g st ep R B = 0 ∧ wxT a g st ep R B = 130 ∧ psT a g st ep R B B.length = AR r) := fun r hr ho => by
    rw [hAR.out] at ho ⊢
    obtain ⟨q1, q2⟩ := pc_at hr ho
    exact ⟨if_pos q1, if_pos q1, q2⟩
  have SN : Hid ((∀ r, r < B.length → (AR r).off = false) → wnT a g st ep R B = PN B.length ∧ wxT a g st ep R B = 0 ∧ psT a g st ep R B B.length = AR B.length) := fun ho => by
    have q1 : ¬ pcT a g st ep R B = true := by rw [pc_end (fun i hi => by rw [← hAR.out]; exact ho i hi)]; decide
    exact ⟨by rw [hPN.out]; exact if_neg q1, if_neg q1, by rw [hAR.out]⟩
  have PNle : Hid (∀ r, r ≤ 1001 → PN r ≤ r) := fun r _ => by
    rw [hPN.out]
    induction r with
    | zero => exact Nat.le_refl _
    | succ r ih =>
      have := ih (by omega)
      show pnT a g st ep R B r + _ ≤ _
      split <;> omega
  have KP := fun W => @pplace_any W (some ⟨ab, 0, none⟩) pf g st ep hg hst _ t0.out.symm
  have KD := fun W (i : Nat) (hi : i < nT g) => @pdisk_any W (some ⟨ab, 0, none⟩) pf g st ep hg hst (i : Int) (wf_small (by omega) (by have := zz.2.2.2.2.1; omega)) _ rfl
  have KK := fun W (v : Value) (b : List UInt8) (hb : b.length ≤ 4096) (hr : Rd W v b) => spack_any (a := at_) (e := ep) hr
  have KX : Hid (∀ b : List UInt8, b.length ≤ 4096 → paX at_ ep b = 0 ∧ paR at_ ep b = pkT g st ep b) := fun b hb => by
    rw [t0.out]; exact pa_ok (hT.se hb)
  have DI : Hid (∀ i : Nat, i < nT g → 0 ≤ diG g st (i : Int) ∧ diG g st (i : Int) ≤ 100000) := fun i hi => by
    have := diG_in hT.1 hT.2.1 hT.2.2.1 hi
    have := zz.2.2.2.2.1
    omega
  have EX : Hid (∀ r, puX (AR r) g st ep (B.getD r 0) (ro R (B.getD r 0)) = wrAX (AR r) (diG g st ((B.getD r 0 : Nat) : Int)) at_ (pkT g st ep (ro R (B.getD r 0)))) := fun r => by rw [t0.out]; rfl
  have ES : Hid (∀ r, puS (AR r) g st ep (B.getD r 0) (ro R (B.getD r 0)) = wrAS (AR r) (diG g st ((B.getD r 0 : Nat) : Int)) at_ (pkT g st ep (ro R (B.getD r 0)))) := fun r => by rw [t0.out]; rfl
  have wat : (Lit.int .i64 at_).wf = true := wf_small (by omega) (by omega)
  have HB : Hid (∀ i, i ∈ B → i < nT g ∧ i < R.length) := hB
  have Hrow : Hid (∀ i, i < R.length → (ro R i).length ≤ 4096) := hrow
  have HGA : Hid (∀ k, GA k → k < w.heap.size) := h.lt
  clear zz sin t0 hAR hPN hB hrow hT
  obtain ⟨DG, hDG⟩ : ∃ DG : Nat → Int, Hid (DG = fun i : Nat => diG g st (i : Int)) := ⟨_, rfl⟩
  have KD' : ∀ W (i : Nat), i < nT g → Calls Tryz.prog 87 #[aggP (some ⟨ab, 0, none⟩) pf g st ep, .int .i64 (i : Int)] W fun e w' => e = .returned (.int .i64 (DG i)) ∧ Below W.heap.size W w' := fun W i hi => by rw [hDG.out]; exact KD W i hi
  have DI' : Hid (∀ i : Nat, i < nT g → 0 ≤ DG i ∧ DG i ≤ 100000) := by rw [hDG.out]; exact DI
  have EX' : Hid (∀ r, puX (AR r) g st ep (B.getD r 0) (ro R (B.getD r 0)) = wrAX (AR r) (DG (B.getD r 0)) at_ (pkT g st ep (ro R (B.getD r 0)))) := by rw [hDG.out]; exact EX
  have ES' : Hid (∀ r, puS (AR r) g st ep (B.getD r 0) (ro R (B.getD r 0)) = wrAS (AR r) (DG (B.getD r 0)) at_ (pkT g st ep (ro R (B.getD r 0)))) := by rw [hDG.out]; exact ES
  clear KD DI EX ES hDG
  obtain ⟨k, m, z, s, t, o⟩ := g
  obtain ⟨fin1, hf1⟩ : ∃ x, Hid (x = psT a ⟨k, m, z, s, t, o⟩ st ep R B B.length) := ⟨_, rfl⟩
  obtain ⟨fin2, hf2⟩ : ∃ x, Hid (x = wnT a ⟨k, m, z, s, t, o⟩ st ep R B) := ⟨_, rfl⟩
  obtain ⟨fin3, hf3⟩ : ∃ x, Hid (x = wxT a ⟨k, m, z, s, t, o⟩ st ep R B) := ⟨_, rfl⟩
  rw [← hf1.out, ← hf2.out, ← hf3.out]
  have LB := spot_laid w (some ⟨ab, 0, none⟩) pf ⟨k, m, z, s, t, o⟩ st ep 103
  unfold aggP at KP KD' ⊢
  simp only [cellsP] at KP KD' LB ⊢
  obtain ⟨sa, sc, rfl⟩ := hR.rs.form
  obtain ⟨ia, ic, rfl⟩ := hI.form
  obtain ⟨W0, hW0⟩ : ∃ W0, W0 = w.alloc (.cells #[.pointer (some ⟨ab, 0, none⟩), .pointer pf, .int .i64 k, .int .i64 m, .int .i64 z, .int .i64 s, .int .i64 t, .int .i64 o, .int .i64 st, .int .i64 ep] 103) := ⟨_, rfl⟩
  rw [← hW0] at LB
  obtain ⟨SP0, F0⟩ := LB _ (Below.refl _ _)
  have HSP : Hid (SpotAt W0 w.heap.size (some ⟨ab, 0, none⟩) pf ⟨k, m, z, s, t, o⟩ st ep ∧ ¬ GA w.heap.size) := ⟨SP0, fun q => Nat.lt_irrefl _ (HGA.out _ q)⟩
  have TL : Hid (ToldL W0 GA (.slice sa R.length sc) R) := hR.below F0
  have TI : Hid (ToldI W0 GA (.slice ia B.length ic) B) := hI.below F0
  have A0 : Hid (ArAt W0 ab GA (AR 0)) := by rw [AR0.out]; exact h.below F0
  have G0 : Hid (Grew GA w GA W0) := Grew.of_below F0
  clear LB SP0 F0 hR hI h
  go_enter Tryz.func52, Tryz.ntmps52
  go_wp2_with fail
  rw [← hW0]
  clear hW0
  go_step3
  go_wp2_with fail
  go_step3
  go_wp2_with fail
  go_loopw [8, 9, 16] (fun wn wt i wr => ∃ r : Nat, r ≤ B.length ∧ i = .int .i64 (r : Int) ∧ wn = .int .i64 ((PN r : Nat) : Int) ∧ wt = .int .i64 0 ∧ (∃ G', ArAt wr ab G' (AR r) ∧ Grew GA W0 G' wr) ∧ ∀ j, j < r → (AR j).off = false) (fun _ _ i _ => B.length - (intOf i).toNat)
  case atStart => exact ⟨0, Nat.zero_le _, rfl, by rw [PN0.out]; rfl, rfl, ⟨GA, A0.out, Grew.refl _ _⟩, fun j hj => absurd hj (Nat.not_lt_zero _)⟩
  case round =>
    clear A0
    obtain ⟨r, hr, rfl, rfl, rfl, ⟨G', hA, hGr⟩, hoff⟩ := hrel
    obtain ⟨pn, hpn⟩ : ∃ pn, Hid (PN r = pn) := ⟨_, rfl⟩
    rw [hpn.out]
    by_cases hlt : r < B.length
    · have hlt' : (r : Int) < (B.length : Int) := by omega
      have g1 : IntKind.i64.wrap ((r : Int) + 1) = ((r + 1 : Nat) : Int) := by rw [IntKind.wrap_i64]; omega
      obtain ⟨sh, hsh⟩ : ∃ sh, Hid (B.getD r 0 = sh) := ⟨_, rfl⟩
      obtain ⟨hsn, hsR⟩ : Hid (sh < nT ⟨k, m, z, s, t, o⟩) ∧ sh < R.length := by
        have := HB.out _ (getD_memN hlt)
        rw [hsh.out] at this
        exact this
      have hsR' : (sh : Int) < (R.length : Int) := by omega
      obtain ⟨ib, rfl, _, _, ci⟩ := (TI.out.grew hGr).at hlt
      rw [hsh.out] at ci
      obtain ⟨xb, xo, esx⟩ : ∃ xb xo, sa = some ⟨xb, xo, none⟩ := by
        obtain ⟨b, off, _, _, e, _⟩ := TL.out.rs.at hsR
        exact ⟨b, off, e⟩
      subst esx
      obtain ⟨xa, xc, cx, Tx, xlt, xng⟩ := (TL.out.grew hGr).spot hsR rfl
      obtain ⟨LN, hLN⟩ : ∃ LN, Hid (LN = (ro R sh).length) := ⟨_, rfl⟩
      rw [← hLN.out] at cx Tx
      have ng : Hid (¬ G' w.heap.size) := hGr.off HSP.out.1.lt HSP.out.2
      have SPr : Hid (SpotAt wr w.heap.size (some ⟨ab, 0, none⟩) pf ⟨k, m, z, s, t, o⟩ st ep) := HSP.out.1.turn HSP.out.2 hGr.turn
      have BD : Below wr.heap.size wr wr.drew := (Below.refl _ _).drew
      have SE : Hid (∀ W, Below wr.heap.size wr W → W.cell? ⟨xb, xo + sh, none⟩ = some (.slice xa LN xc) ∧ W.cell? ⟨w.heap.size, 0, none⟩ = some (.pointer (some ⟨ab, 0, none⟩)) ∧ W.cell? ⟨w.heap.size, 1, none⟩ = some (.pointer pf) ∧ W.cell? ⟨w.heap.size, 2, none⟩ = some (.int .i64 k) ∧ W.cell? ⟨w.heap.size, 3, none⟩ = some (.int .i64 m) ∧ W.cell? ⟨w.heap.size, 4, none⟩ = some (.int .i64 z) ∧ W.cell? ⟨w.heap.size, 5, none⟩ = some (.int .i64 s) ∧ W.cell? ⟨w.heap.size, 6, none⟩ = some (.int .i64 t) ∧ W.cell? ⟨w.heap.size, 7, none⟩ = some (.int .i64 o) ∧ W.cell? ⟨w.heap.size, 8, none⟩ = some (.int .i64 st) ∧ W.cell? ⟨w.heap.size, 9, none⟩ = some (.int .i64 ep)) := fun W b => ⟨(b.cell (p := ⟨xb, xo + sh, none⟩) xlt).trans cx, (SPr.out.below SPr.out.lt b).all⟩
      have SB : Hid (∀ W, Below wr.drew.heap.size wr.drew W → W.cell? ⟨xb, xo + sh, none⟩ = some (.slice xa LN xc) ∧ W.cell? ⟨w.heap.size, 0, none⟩ = some (.pointer (some ⟨ab, 0, none⟩)) ∧ W.cell? ⟨w.heap.size, 1, none⟩ = some (.pointer pf) ∧ W.cell? ⟨w.heap.size, 2, none⟩ = some (.int .i64 k) ∧ W.cell? ⟨w.heap.size, 3, none⟩ = some (.int .i64 m) ∧ W.cell? ⟨w.heap.size, 4, none⟩ = some (.int .i64 z) ∧ W.cell? ⟨w.heap.size, 5, none⟩ = some (.int .i64 s) ∧ W.cell? ⟨w.heap.size, 6, none⟩ = some (.int .i64 t) ∧ W.cell? ⟨w.heap.size, 7, none⟩ = some (.int .i64 o) ∧ W.cell? ⟨w.heap.size, 8, none⟩ = some (.int .i64 st) ∧ W.cell? ⟨w.heap.size, 9, none⟩ = some (.int .i64 ep)) := fun W b => SE.out W (BD.stepL b BD.size)
      have s0 := SE.out wr (Below.refl _ _)
      have sD := SE.out _ BD
      have RX : Hid (∀ W, Below wr.heap.size wr W → Rd W (.slice xa LN xc) (ro R sh)) := fun W b => Tx.rd.below b
      obtain ⟨pk, hpk⟩ : ∃ pk, Hid (pk = pkT ⟨k, m, z, s, t, o⟩ st ep (ro R sh)) := ⟨_, rfl⟩
      have KK1 : ∀ W, Rd W (.slice xa LN xc) (ro R sh) → Calls Tryz.prog 85 #[.int .i64 at_, .int .i64 ep, .slice xa LN xc] W (MakesS W 0 pk) := fun W hr => by
        have := KK W _ (ro R sh) (Hrow.out _ hsR) hr
        rw [(KX.out _ (Hrow.out _ hsR)).1, (KX.out _ (Hrow.out _ hsR)).2, ← hpk.out] at this
        exact this
      have KD1 := fun W => KD' W sh hsn
      obtain ⟨dd, hdd⟩ : ∃ dd, Hid (dd = DG sh) := ⟨_, rfl⟩
      rw [← hdd.out] at KD1
      have wdd : (Lit.int .i64 dd).wf = true := by rw [hdd.out]; exact wf_small (DI'.out sh hsn).1 (DI'.out sh hsn).2
      obtain ⟨px, hpx⟩ : ∃ px, Hid (puX (AR r) ⟨k, m, z, s, t, o⟩ st ep sh (ro R sh) = px) := ⟨_, rfl⟩
      obtain ⟨AN, hAN⟩ : ∃ AN, Hid (puS (AR r) ⟨k, m, z, s, t, o⟩ st ep sh (ro R sh) = AN) := ⟨_, rfl⟩
      have KW : ∀ W, Below wr.heap.size wr W → ∀ {pa : Option Addr} {pc LP : Nat}, Rd W (.slice pa LP pc) pk → Calls Tryz.prog 70 #[.pointer (some ⟨ab, 0, none⟩), .int .i64 dd, .int .i64 at_, .slice pa LP pc] W (LeavesA W ab G' AN (.int .i64 px)) := fun W b _ _ _ hp => by
        have := awrite_any (hA.below b) wdd wat hp
        have e1 := EX'.out r
        have e2 := ES'.out r
        rw [hsh.out, ← hdd.out, ← hpk.out, hpx.out] at e1
        rw [hsh.out, ← hdd.out, ← hpk.out, hAN.out] at e2
        rw [← e1, ← e2] at this
        exact this
      have ST : Hid (∀ W G5 W5, Below wr.heap.size wr W → Grew G' W G5 W5 → W5.cell? ⟨w.heap.size, 0, none⟩ = some (.pointer (some ⟨ab, 0, none⟩)) ∧ W5.cell? ⟨w.heap.size, 1, none⟩ = some (.pointer pf) ∧ W5.cell? ⟨w.heap.size, 2, none⟩ = some (.int .i64 k) ∧ W5.cell? ⟨w.heap.size, 3, none⟩ = some (.int .i64 m) ∧ W5.cell? ⟨w.heap.size, 4, none⟩ = some (.int .i64 z) ∧ W5.cell? ⟨w.heap.size, 5, none⟩ = some (.int .i64 s) ∧ W5.cell? ⟨w.heap.size, 6, none⟩ = some (.int .i64 t) ∧ W5.cell? ⟨w.heap.size, 7, none⟩ = some (.int .i64 o) ∧ W5.cell? ⟨w.heap.size, 8, none⟩ = some (.int .i64 st) ∧ W5.cell? ⟨w.heap.size, 9, none⟩ = some (.int .i64 ep)) := fun W G5 W5 b gg => ((SPr.out.below SPr.out.lt b).turn ng.out gg.turn).all
      have E2D : Hid (∀ {v2 v3 : World}, Below v2.drew.heap.size v2.drew v3 → Below v2.heap.size v2 v3) := fun b => ((Below.refl _ _).drew).stepL b (Nat.le_refl _)
      have HARs : Hid _ := ARs.out r
      have HPNs : Hid _ := PNs.out r
      rw [hsh.out] at HARs HPNs
      clear cx Tx hA xlt xng wdd
      by_cases ho : (AR r).off = true
      · have e1 : px = 130 := by rw [← hpx.out]; exact puX_crash.2 ho
        have e2 : Hid (AN = AR r) := by show _ = _; rw [← hAN.out]; exact puS_off ho _ _
        have E9 : Hid _ := SX.out r hlt ho
        clear ho hoff
        subst e1
        go_wp2_with fail
        go_region_held3 (fun wx => wx.cell? ⟨xb, xo + sh, none⟩ = some (.slice xa LN xc) ∧ wx.cell? ⟨w.heap.size, 0, none⟩ = some (.pointer (some ⟨ab, 0, none⟩)) ∧ wx.cell? ⟨w.heap.size, 1, none⟩ = some (.pointer pf) ∧ wx.cell? ⟨w.heap.size, 2, none⟩ = some (.int .i64 k) ∧ wx.cell? ⟨w.heap.size, 3, none⟩ = some (.int .i64 m) ∧ wx.cell? ⟨w.heap.size, 4, none⟩ = some (.int .i64 z) ∧ wx.cell? ⟨w.heap.size, 5, none⟩ = some (.int .i64 s) ∧ wx.cell? ⟨w.heap.size, 6, none⟩ = some (.int .i64 t) ∧ wx.cell? ⟨w.heap.size, 7, none⟩ = some (.int .i64 o) ∧ wx.cell? ⟨w.heap.size, 8, none⟩ = some (.int .i64 st) ∧ wx.cell? ⟨w.heap.size, 9, none⟩ = some (.int .i64 ep)) (first | exact s0 | exact sD | exact s1 | exact s2) (first
          | (go_at_call 86; go_loud (refine (KP _).mono ?_); rintro _ v1 ⟨rfl, b1⟩; go_loud (have s1 := SB.out _ b1); go_loud (have E1 : Hid (Below wr.heap.size wr v1) := BD.stepL b1 BD.size))
          | (go_at_call 85; go_loud (refine (KK1 _ (RX.out _ E1.out)).mono ?_); rintro _ v2 ⟨vp, rfl, R2, b2⟩; have E2 : Hid (Below wr.heap.size wr v2) := E1.out.stepL b2 E1.out.size; have s2 := SE.out _ E2.out; obtain ⟨pa, pc, rfl⟩ := R2.form))
        have HR2 : Hid (Rd v2 (.slice pa pk.length pc) pk) := R2
        have c2 := s2.2
        clear s0 sD s1 s2 b1 b2 R2 E1
        obtain ⟨LP, hLP⟩ : ∃ LP, Hid (LP = pk.length) := ⟨_, rfl⟩
        rw [← hLP.out] at HR2 ⊢
        have d2 := (SE.out _ (E2.out.drew)).2
        have BD2 : Hid (Below wr.heap.size wr v2.drew) := E2.out.drew
        go_wp2_with fail
        go_region_held3 (fun wx => wx.cell? ⟨w.heap.size, 0, none⟩ = some (.pointer (some ⟨ab, 0, none⟩)) ∧ wx.cell? ⟨w.heap.size, 1, none⟩ = some (.pointer pf) ∧ wx.cell? ⟨w.heap.size, 2, none⟩ = some (.int .i64 k) ∧ wx.cell? ⟨w.heap.size, 3, none⟩ = some (.int .i64 m) ∧ wx.cell? ⟨w.heap.size, 4, none⟩ = some (.int .i64 z) ∧ wx.cell? ⟨w.heap.size, 5, none⟩ = some (.int .i64 s) ∧ wx.cell? ⟨w.heap.size, 6, none⟩ = some (.int .i64 t) ∧ wx.cell? ⟨w.heap.size, 7, none⟩ = some (.int .i64 o) ∧ wx.cell? ⟨w.heap.size, 8, none⟩ = some (.int .i64 st) ∧ wx.cell? ⟨w.heap.size, 9, none⟩ = some (.int .i64 ep)) (first | exact c2 | exact d2 | exact c3 | exact c4 | exact c5) (first
          | (go_at_call 87; go_loud (refine (KD1 _).mono ?_); rintro _ v3 ⟨rfl, b3⟩; have E3 : Hid (Below wr.heap.size wr v3) := BD2.out.stepL b3 BD2.out.size; have c3 := (SE.out _ E3.out).2)
          | (go_at_call 86; go_loud (refine (KP _).mono ?_); rintro _ v4 ⟨rfl, b4⟩; have E4 : Hid (Below wr.heap.size wr v4) := E3.out.stepL b4 E3.out.size; have c4 := (SE.out _ E4.out).2; go_loud (have R4 := (HR2.out.below (E2D.out b3)).below b4))
          | (go_at_call 70; go_loud (refine (KW _ E4.out R4).mono ?_); rintro _ v5 ⟨rfl, G5, A5, g5⟩; go_loud (have c5 := ST.out _ _ _ E4.out g5)))
        have HA5 : Hid _ := A5
        have HG5 : Hid (Grew GA W0 G5 v5) := hGr.trans ((Grew.of_below E4.out).trans g5)
        clear c2 d2 c3 c4 c5 b3 b4 R4 A5 g5 E2 E3 E4 BD2 KK1 KD1 KW HR2 hGr
        go_wp2
        try rw [Exit.noGoto_ret]
        refine bodyPost_ret (v := .tuple #[.int .i64 0, .int .i64 130]) (by simp [results, Tryz.results52, go_sem]) rfl ?_
        exact ⟨by rw [hf2.out, hf3.out, E9.out.1, E9.out.2.1]; rfl, G5, by rw [hf1.out, E9.out.2.2, ← e2.out]; exact HA5.out, G0.out.trans HG5.out⟩
      · have ho' : (AR r).off = false := by simpa using ho
        have e1 : ¬ px = 130 := by rw [← hpx.out]; exact fun e => ho (puX_crash.1 e)
        have e1' : (px == 130) = false := beq_eq_false_iff_ne.2 e1
        have e2 : Hid (AN = AR (r + 1)) := by show _ = _; rw [← hAN.out]; exact HARs.out.symm
        have H2 : Hid (∀ j, j < r + 1 → (AR j).off = false) := fun j hj => by
          by_cases e : j = r
          · rw [e]; exact ho'
          · exact hoff j (by omega)
        have HP : Hid (PN (r + 1) = pn + (if px = 0 then 1 else 0)) := by
          show _ = _
          rw [HPNs.out, hpx.out, hpn.out]
        clear hoff ho ho' HPNs
        by_cases hp0 : px = 0
        · have HP1 : Hid (PN (r + 1) = pn + 1) := by show _ = _; rw [HP.out, if_pos hp0]
          have gp : IntKind.i64.wrap ((pn : Int) + 1) = ((pn + 1 : Nat) : Int) := by
            have := PNle.out (r + 1) (by omega)
            have := HP1.out
            rw [IntKind.wrap_i64]; omega
          subst hp0
          go_wp2_with fail
          go_region_held3 (fun wx => wx.cell? ⟨xb, xo + sh, none⟩ = some (.slice xa LN xc) ∧ wx.cell? ⟨w.heap.size, 0, none⟩ = some (.pointer (some ⟨ab, 0, none⟩)) ∧ wx.cell? ⟨w.heap.size, 1, none⟩ = some (.pointer pf) ∧ wx.cell? ⟨w.heap.size, 2, none⟩ = some (.int .i64 k) ∧ wx.cell? ⟨w.heap.size, 3, none⟩ = some (.int .i64 m) ∧ wx.cell? ⟨w.heap.size, 4, none⟩ = some (.int .i64 z) ∧ wx.cell? ⟨w.heap.size, 5, none⟩ = some (.int .i64 s) ∧ wx.cell? ⟨w.heap.size, 6, none⟩ = some (.int .i64 t) ∧ wx.cell? ⟨w.heap.size, 7, none⟩ = some (.int .i64 o) ∧ wx.cell? ⟨w.heap.size, 8, none⟩ = some (.int .i64 st) ∧ wx.cell? ⟨w.heap.size, 9, none⟩ = some (.int .i64 ep)) (first | exact s0 | exact sD | exact s1 | exact s2) (first
            | (go_at_call 86; go_loud (refine (KP _).mono ?_); rintro _ v1 ⟨rfl, b1⟩; go_loud (have s1 := SB.out _ b1); go_loud (have E1 : Hid (Below wr.heap.size wr v1) := BD.stepL b1 BD.size))
            | (go_at_call 85; go_loud (refine (KK1 _ (RX.out _ E1.out)).mono ?_); rintro _ v2 ⟨vp, rfl, R2, b2⟩; have E2 : Hid (Below wr.heap.size wr v2) := E1.out.stepL b2 E1.out.size; have s2 := SE.out _ E2.out; obtain ⟨pa, pc, rfl⟩ := R2.form))
          have HR2 : Hid (Rd v2 (.slice pa pk.length pc) pk) := R2
          have c2 := s2.2
          clear s0 sD s1 s2 b1 b2 R2 E1
          obtain ⟨LP, hLP⟩ : ∃ LP, Hid (LP = pk.length) := ⟨_, rfl⟩
          rw [← hLP.out] at HR2 ⊢
          have d2 := (SE.out _ (E2.out.drew)).2
          have BD2 : Hid (Below wr.heap.size wr v2.drew) := E2.out.drew
          go_wp2_with fail
          go_region_held3 (fun wx => wx.cell? ⟨w.heap.size, 0, none⟩ = some (.pointer (some ⟨ab, 0, none⟩)) ∧ wx.cell? ⟨w.heap.size, 1, none⟩ = some (.pointer pf) ∧ wx.cell? ⟨w.heap.size, 2, none⟩ = some (.int .i64 k) ∧ wx.cell? ⟨w.heap.size, 3, none⟩ = some (.int .i64 m) ∧ wx.cell? ⟨w.heap.size, 4, none⟩ = some (.int .i64 z) ∧ wx.cell? ⟨w.heap.size, 5, none⟩ = some (.int .i64 s) ∧ wx.cell? ⟨w.heap.size, 6, none⟩ = some (.int .i64 t) ∧ wx.cell? ⟨w.heap.size, 7, none⟩ = some (.int .i64 o) ∧ wx.cell? ⟨w.heap.size, 8, none⟩ = some (.int .i64 st) ∧ wx.cell? ⟨w.heap.size, 9, none⟩ = some (.int .i64 ep)) (first | exact c2 | exact d2 | exact c3 | exact c4 | exact c5) (first
            | (go_at_call 87; go_loud (refine (KD1 _).mono ?_); rintro _ v3 ⟨rfl, b3⟩; have E3 : Hid (Below wr.heap.size wr v3) := BD2.out.stepL b3 BD2.out.size; have c3 := (SE.out _ E3.out).2)
            | (go_at_call 86; go_loud (refine (KP _).mono ?_); rintro _ v4 ⟨rfl, b4⟩; have E4 : Hid (Below wr.heap.size wr v4) := E3.out.stepL b4 E3.out.size; have c4 := (SE.out _ E4.out).2; go_loud (have R4 := (HR2.out.below (E2D.out b3)).below b4))
            | (go_at_call 70; go_loud (refine (KW _ E4.out R4).mono ?_); rintro _ v5 ⟨rfl, G5, A5, g5⟩; go_loud (have c5 := ST.out _ _ _ E4.out g5)))
          have HA5 : Hid _ := A5
          have HG5 : Hid (Grew GA W0 G5 v5) := hGr.trans ((Grew.of_below E4.out).trans g5)
          clear c2 d2 c3 c4 c5 b3 b4 R4 A5 g5 E2 E3 E4 BD2 KK1 KD1 KW HR2 hGr
          go_wp2
          go_roundw
          case rel => exact ⟨r + 1, by omega, by go_num, by rw [HP1.out] <;> first | rfl | go_num, rfl, ⟨G5, by rw [← e2.out]; exact HA5.out, HG5.out⟩, H2.out⟩
          case measure => simp [intOf]; omega
        · have HP1 : Hid (PN (r + 1) = pn) := by show _ = _; rw [HP.out, if_neg hp0]; rfl
          have hp0' : (px == 0) = false := beq_eq_false_iff_ne.2 hp0
          go_wp2_with fail
          go_region_held3 (fun wx => wx.cell? ⟨xb, xo + sh, none⟩ = some (.slice xa LN xc) ∧ wx.cell? ⟨w.heap.size, 0, none⟩ = some (.pointer (some ⟨ab, 0, none⟩)) ∧ wx.cell? ⟨w.heap.size, 1, none⟩ = some (.pointer pf) ∧ wx.cell? ⟨w.heap.size, 2, none⟩ = some (.int .i64 k) ∧ wx.cell? ⟨w.heap.size, 3, none⟩ = some (.int .i64 m) ∧ wx.cell? ⟨w.heap.size, 4, none⟩ = some (.int .i64 z) ∧ wx.cell? ⟨w.heap.size, 5, none⟩ = some (.int .i64 s) ∧ wx.cell? ⟨w.heap.size, 6, none⟩ = some (.int .i64 t) ∧ wx.cell? ⟨w.heap.size, 7, none⟩ = some (.int .i64 o) ∧ wx.cell? ⟨w.heap.size, 8, none⟩ = some (.int .i64 st) ∧ wx.cell? ⟨w.heap.size, 9, none⟩ = some (.int .i64 ep)) (first | exact s0 | exact sD | exact s1 | exact s2) (first
            | (go_at_call 86; go_loud (refine (KP _).mono ?_); rintro _ v1 ⟨rfl, b1⟩; go_loud (have s1 := SB.out _ b1); go_loud (have E1 : Hid (Below wr.heap.size wr v1) := BD.stepL b1 BD.size))
            | (go_at_call 85; go_loud (refine (KK1 _ (RX.out _ E1.out)).mono ?_); rintro _ v2 ⟨vp, rfl, R2, b2⟩; have E2 : Hid (Below wr.heap.size wr v2) := E1.out.stepL b2 E1.out.size; have s2 := SE.out _ E2.out; obtain ⟨pa, pc, rfl⟩ := R2.form))
          have HR2 : Hid (Rd v2 (.slice pa pk.length pc) pk) := R2
          have c2 := s2.2
          clear s0 sD s1 s2 b1 b2 R2 E1
          obtain ⟨LP, hLP⟩ : ∃ LP, Hid (LP = pk.length) := ⟨_, rfl⟩
          rw [← hLP.out] at HR2 ⊢
          have d2 := (SE.out _ (E2.out.drew)).2
          have BD2 : Hid (Below wr.heap.size wr v2.drew) := E2.out.drew
          go_wp2_with fail
          go_region_held3 (fun wx => wx.cell? ⟨w.heap.size, 0, none⟩ = some (.pointer (some ⟨ab, 0, none⟩)) ∧ wx.cell? ⟨w.heap.size, 1, none⟩ = some (.pointer pf) ∧ wx.cell? ⟨w.heap.size, 2, none⟩ = some (.int .i64 k) ∧ wx.cell? ⟨w.heap.size, 3, none⟩ = some (.int .i64 m) ∧ wx.cell? ⟨w.heap.size, 4, none⟩ = some (.int .i64 z) ∧ wx.cell? ⟨w.heap.size, 5, none⟩ = some (.int .i64 s) ∧ wx.cell? ⟨w.heap.size, 6, none⟩ = some (.int .i64 t) ∧ wx.cell? ⟨w.heap.size, 7, none⟩ = some (.int .i64 o) ∧ wx.cell? ⟨w.heap.size, 8, none⟩ = some (.int .i64 st) ∧ wx.cell? ⟨w.heap.size, 9, none⟩ = some (.int .i64 ep)) (first | exact c2 | exact d2 | exact c3 | exact c4 | exact c5) (first
            | (go_at_call 87; go_loud (refine (KD1 _).mono ?_); rintro _ v3 ⟨rfl, b3⟩; have E3 : Hid (Below wr.heap.size wr v3) := BD2.out.stepL b3 BD2.out.size; have c3 := (SE.out _ E3.out).2)
            | (go_at_call 86; go_loud (refine (KP _).mono ?_); rintro _ v4 ⟨rfl, b4⟩; have E4 : Hid (Below wr.heap.size wr v4) := E3.out.stepL b4 E3.out.size; have c4 := (SE.out _ E4.out).2; go_loud (have R4 := (HR2.out.below (E2D.out b3)).below b4))
            | (go_at_call 70; go_loud (refine (KW _ E4.out R4).mono ?_); rintro _ v5 ⟨rfl, G5, A5, g5⟩; go_loud (have c5 := ST.out _ _ _ E4.out g5)))
          have HA5 : Hid _ := A5
          have HG5 : Hid (Grew GA W0 G5 v5) := hGr.trans ((Grew.of_below E4.out).trans g5)
          clear c2 d2 c3 c4 c5 b3 b4 R4 A5 g5 E2 E3 E4 BD2 KK1 KD1 KW HR2 hGr
          go_wp2
          go_roundw
          case rel => exact ⟨r + 1, by omega, by go_num, by rw [HP1.out] <;> first | rfl | go_num, rfl, ⟨G5, by rw [← e2.out]; exact HA5.out, HG5.out⟩, H2.out⟩
          case measure => simp [intOf]; omega
    · obtain rfl : r = B.length := by omega
      have hlt' : ¬ (B.length : Int) < (B.length : Int) := by omega
      have E9 : Hid _ := SN.out hoff
      have HA5 : Hid (ArAt wr ab G' (AR B.length)) := hA
      have HG5 : Hid (Grew GA W0 G' wr) := hGr
      clear hA hGr hoff
      go_wp2
      try rw [Exit.noGoto_ret]
      refine bodyPost_ret (v := .tuple #[.int .i64 (pn : Int), .int .i64 0]) (by simp [results, Tryz.results52, go_sem]) rfl ?_
      exact ⟨by rw [hf2.out, hf3.out, E9.out.1, E9.out.2.1, hpn.out], G', by rw [hf1.out, E9.out.2.2]; exact HA5.out, G0.out.trans HG5.out⟩
end Go.Proofs.YtddnfhfangfgeaaGreat.Gf
