/- TEXTS JOINED: LyLK, StSp, StMath, StHeld. -/
import Derived.Below
import Derived.OpenShut
import Derived.Lib.SmallJoins
import Derived.Test.YtddnfhfangfgeaaGreatChecked
import GoSem.Claim
import GoSem.ClaimJoined
import GoSem.ClaimMapViews
import Derived.JoinedTies
import Derived.KernelRfl
import Derived.WalkKit
import Derived.Deep.QuietTactic
import Derived.BigQuiet
import Derived.WalkLawsBesides
import Derived.WalkSpells
import Derived.Laws.CopyOwn
import Derived.Deep.AppendLies
import Derived.Deep.OwnRows
import Derived.Deep.RegionHeld3
import Derived.Test.YtddnfhfangfgeaaGreatRows
import Derived.Test.YtddnfhfangfgeaaGreatTome36
import Derived.Test.YtddnfhfangfgeaaGreatTome1
import Derived.Test.YtddnfhfangfgeaaGreatTome31
import Derived.Laws.AppendOwnNone
import Derived.WalkMore
import Derived.Deep.RegionLaw
import Derived.Deep.RegionWith
import Derived.Deep.CutRange
import Derived.Deep.Slices
import Derived.Test.YtddnfhfangfgeaaGreatTome2
import Derived.Test.YtddnfhfangfgeaaGreatTome10
import Derived.Test.YtddnfhfangfgeaaGreatTome11
import Derived.Test.YtddnfhfangfgeaaGreatTome9
import Derived.Test.YtddnfhfangfgeaaGreatTome13
import Derived.Test.YtddnfhfangfgeaaGreatTome20
import Derived.Test.YtddnfhfangfgeaaGreatTome21
import Derived.Test.YtddnfhfangfgeaaGreatTome27
import Derived.Test.YtddnfhfangfgeaaGreatTome34
namespace Go.Proofs.YtddnfhfangfgeaaGreat.Gf
set_option linter.unusedVariables false
set_option linter.unusedSimpArgs false
open Go.RowKit
set_option maxRecDepth 100000 in
set_option maxHeartbeats 1000000 in
theorem ldisk_any {w : World} {g : GeoS} (hg : g.Wf) {st sh : Int} (hst : (Lit.int .i64 st).wf = true) (hsh : (Lit.int .i64 sh).wf = true) {x : Int} (hx : diG g st sh = x) : Calls Tryz.prog 127 #[aggG g, .int .i64 st, .int .i64 sh] w fun e w' => e = .returned (.int .i64 x) ∧ Below w.heap.size w w' := by
  obtain ⟨k, m, z, s, t, o⟩ := g
  have LA := geo_laid w ⟨k, m, z, s, t, o⟩
  rw [show aggG ⟨k, m, z, s, t, o⟩ = .agg #[.int .i64 k, .int .i64 m, .int .i64 z, .int .i64 s, .int .i64 t, .int .i64 o] from rfl]
  have bk := bounds_i64 hg.k
  have bm := bounds_i64 hg.m
  simp only at bk bm
  have KC := fun W => @lcheck_any W ⟨k, m, z, s, t, o⟩ hg _ rfl
  rw [show aggG ⟨k, m, z, s, t, o⟩ = .agg #[.int .i64 k, .int .i64 m, .int .i64 z, .int .i64 s, .int .i64 t, .int .i64 o] from rfl] at KC
  have KD := fun W => @ldisks_any W ⟨k, m, z, s, t, o⟩ _ rfl
  simp only at KD
  rw [show aggG ⟨k, m, z, s, t, o⟩ = .agg #[.int .i64 k, .int .i64 m, .int .i64 z, .int .i64 s, .int .i64 t, .int .i64 o] from rfl] at KD
  have KA := fun W => @lis_any W st s _ rfl
  have KI := fun W => @lis_any W sh (k + m) _ rfl
  by_cases h0 : okG ⟨k, m, z, s, t, o⟩
  · rw [show chG ⟨k, m, z, s, t, o⟩ = 0 from if_pos h0] at KC
    have hok := h0
    obtain ⟨o1, o2, o3, o4, o5, o6, o7, o8, o9, o10, o11⟩ := h0
    simp only at o1 o2 o3 o4 o5 o6 o7 o8 o9 o10 o11
    have gk : IntKind.i64.wrap (k + m) = k + m := by rw [IntKind.wrap_i64]; omega
    rw [gk] at KD
    by_cases h1 : 0 ≤ st ∧ st < s
    · rw [decide_eq_true h1] at KA
      by_cases h2 : 0 ≤ sh ∧ sh < k + m
      · rw [show diG ⟨k, m, z, s, t, o⟩ st sh = (sh + st) % (k + m) from if_pos ⟨⟨hok, h1⟩, h2⟩] at hx
        rw [decide_eq_true h2] at KI
        obtain ⟨n, hn⟩ : ∃ n, Hid (n = k + m) := ⟨_, rfl⟩
        rw [← hn.out] at KD KI hx o3 h2
        have o1' : 1 ≤ n := by rw [hn.out]; omega
        have g2 : IntKind.i64.wrap (sh + st) = sh + st := by rw [IntKind.wrap_i64]; omega
        have nz : ¬ n = 0 := by omega
        have nz' : (n == 0) = false := beq_eq_false_iff_ne.2 nz
        have tm : (sh + st).tmod n = (sh + st) % n := Int.tmod_eq_emod_of_nonneg (by omega)
        have gm : IntKind.i64.wrap ((sh + st) % n) = (sh + st) % n := by
          have e1 := Int.emod_nonneg (sh + st) nz
          have e2 := Int.emod_lt_of_pos (sh + st) (show 0 < n by omega)
          rw [IntKind.wrap_i64]; omega
        subst hx
        go_enter Tryz.func127, Tryz.ntmps127
        go_wp2_with fail
        refine (KC _).mono ?_
        rintro _ w1 ⟨rfl, B1⟩
        obtain ⟨⟨x0, x1, x2, x3, x4, x5⟩, F1⟩ := LA _ _ B1
        simp only at x0 x1 x2 x3 x4 x5
        have C1 := B1
        clear B1 KC
        go_wp2_with fail
        refine (KA _).mono ?_
        rintro _ wq ⟨rfl, hwq⟩
        rw [hwq]
        clear hwq wq
        go_wp2_with fail
        refine (KD _).mono ?_
        rintro _ w2 ⟨rfl, B2⟩
        have C2 := C1.stepL B2 C1.size
        clear x0 x1 x2 x3 x4 x5 B2 C1
        obtain ⟨⟨x0, x1, x2, x3, x4, x5⟩, F2⟩ := LA _ _ C2
        simp only at x0 x1 x2 x3 x4 x5
        go_wp2_with fail
        refine (KI _).mono ?_
        rintro _ wq ⟨rfl, hwq⟩
        rw [hwq]
        clear hwq wq
        go_wp2_with fail
        refine (KD _).mono ?_
        rintro _ w3 ⟨rfl, B3⟩
        have C3 := C2.stepL B3 C2.size
        clear x0 x1 x2 x3 x4 x5 B3 C2
        obtain ⟨⟨x0, x1, x2, x3, x4, x5⟩, F3⟩ := LA _ _ C3
        simp only at x0 x1 x2 x3 x4 x5
        clear LA C3
        go_wp2
        go_ret
        exact ⟨rfl, F3⟩
      · rw [show diG ⟨k, m, z, s, t, o⟩ st sh = 0 from if_neg (fun h => h2 h.2)] at hx
        rw [decide_eq_false h2] at KI
        subst hx
        go_enter Tryz.func127, Tryz.ntmps127
        go_wp2_with fail
        refine (KC _).mono ?_
        rintro _ w1 ⟨rfl, B1⟩
        obtain ⟨⟨x0, x1, x2, x3, x4, x5⟩, F1⟩ := LA _ _ B1
        simp only at x0 x1 x2 x3 x4 x5
        have C1 := B1
        clear B1 KC
        go_wp2_with fail
        refine (KA _).mono ?_
        rintro _ wq ⟨rfl, hwq⟩
        rw [hwq]
        clear hwq wq
        go_wp2_with fail
        refine (KD _).mono ?_
        rintro _ w2 ⟨rfl, B2⟩
        have C2 := C1.stepL B2 C1.size
        clear x0 x1 x2 x3 x4 x5 B2 C1
        obtain ⟨⟨x0, x1, x2, x3, x4, x5⟩, F2⟩ := LA _ _ C2
        simp only at x0 x1 x2 x3 x4 x5
        go_wp2_with fail
        refine (KI _).mono ?_
        rintro _ wq ⟨rfl, hwq⟩
        rw [hwq]
        clear hwq wq
        clear LA C2
        go_wp2
        go_ret
        exact ⟨rfl, F2⟩
    · rw [show diG ⟨k, m, z, s, t, o⟩ st sh = 0 from if_neg (fun h => h1 h.1.2)] at hx
      rw [decide_eq_false h1] at KA
      subst hx
      go_enter Tryz.func127, Tryz.ntmps127
      go_wp2_with fail
      refine (KC _).mono ?_
      rintro _ w1 ⟨rfl, B1⟩
      obtain ⟨⟨x0, x1, x2, x3, x4, x5⟩, F1⟩ := LA _ _ B1
      simp only at x0 x1 x2 x3 x4 x5
      have C1 := B1
      clear B1 KC
      go_wp2_with fail
      refine (KA _).mono ?_
      rintro _ wq ⟨rfl, hwq⟩
      rw [hwq]
      clear hwq wq
      clear LA C1
      go_wp2
      go_ret
      exact ⟨rfl, F1⟩
  · rw [show chG ⟨k, m, z, s, t, o⟩ = 50 from if_neg h0] at KC
    rw [show diG ⟨k, m, z, s, t, o⟩ st sh = 0 from if_neg (fun h => h0 h.1.1)] at hx
    subst hx
    go_enter Tryz.func127, Tryz.ntmps127
    go_wp2_with fail
    refine (KC _).mono ?_
    rintro _ w1 ⟨rfl, B1⟩
    obtain ⟨⟨x0, x1, x2, x3, x4, x5⟩, F1⟩ := LA _ _ B1
    simp only at x0 x1 x2 x3 x4 x5
    clear B1 LA KC
    go_wp2
    go_ret
    exact ⟨rfl, F1⟩
end Go.Proofs.YtddnfhfangfgeaaGreat.Gf

namespace Go.Proofs.YtddnfhfangfgeaaGreat.Gf
set_option linter.unusedVariables false
set_option linter.unusedSimpArgs false
open Go.RowKit
def cellsP (pa pf : Option Addr) (g : GeoS) (st ep : Int) : Array Value := #[.pointer pa, .pointer pf, .int .i64 g.k, .int .i64 g.m, .int .i64 g.z, .int .i64 g.s, .int .i64 g.t, .int .i64 g.o, .int .i64 st, .int .i64 ep]
def aggP (pa pf : Option Addr) (g : GeoS) (st ep : Int) : Value := .agg (cellsP pa pf g st ep)
structure SpotAt (w : World) (b : Nat) (pa pf : Option Addr) (g : GeoS) (st ep : Int) : Prop where
  c0 : w.cell? ⟨b, 0, none⟩ = some (.pointer pa)
  c1 : w.cell? ⟨b, 1, none⟩ = some (.pointer pf)
  c2 : w.cell? ⟨b, 2, none⟩ = some (.int .i64 g.k)
  c3 : w.cell? ⟨b, 3, none⟩ = some (.int .i64 g.m)
  c4 : w.cell? ⟨b, 4, none⟩ = some (.int .i64 g.z)
  c5 : w.cell? ⟨b, 5, none⟩ = some (.int .i64 g.s)
  c6 : w.cell? ⟨b, 6, none⟩ = some (.int .i64 g.t)
  c7 : w.cell? ⟨b, 7, none⟩ = some (.int .i64 g.o)
  c8 : w.cell? ⟨b, 8, none⟩ = some (.int .i64 st)
  c9 : w.cell? ⟨b, 9, none⟩ = some (.int .i64 ep)
section
variable {w w' : World} {b : Nat} {pa pf : Option Addr} {g : GeoS} {st ep : Int}
theorem SpotAt.keep (h : SpotAt w b pa pf g st ep) (hc : ∀ j, w'.cell? ⟨b, j, none⟩ = w.cell? ⟨b, j, none⟩) : SpotAt w' b pa pf g st ep :=
  ⟨(hc 0).trans h.c0, (hc 1).trans h.c1, (hc 2).trans h.c2, (hc 3).trans h.c3, (hc 4).trans h.c4, (hc 5).trans h.c5, (hc 6).trans h.c6, (hc 7).trans h.c7, (hc 8).trans h.c8, (hc 9).trans h.c9⟩
theorem SpotAt.lt (h : SpotAt w b pa pf g st ep) : b < w.heap.size := World.block_lt_of_cell? w ⟨b, 0, none⟩ h.c0
theorem SpotAt.below (h : SpotAt w b pa pf g st ep) {B : Nat} (hb : b < B) (hw : Below B w w') : SpotAt w' b pa pf g st ep := h.keep fun j => hw.cell (p := ⟨b, j, none⟩) hb
theorem SpotAt.turn {G : Nat → Prop} (h : SpotAt w b pa pf g st ep) (hg : ¬ G b) (t : TurnG G w w') : SpotAt w' b pa pf g st ep := h.keep fun j => t.cell (p := ⟨b, j, none⟩) h.lt hg
theorem SpotAt.all (h : SpotAt w b pa pf g st ep) : w.cell? ⟨b, 0, none⟩ = some (.pointer pa) ∧ w.cell? ⟨b, 1, none⟩ = some (.pointer pf) ∧ w.cell? ⟨b, 2, none⟩ = some (.int .i64 g.k) ∧ w.cell? ⟨b, 3, none⟩ = some (.int .i64 g.m) ∧ w.cell? ⟨b, 4, none⟩ = some (.int .i64 g.z) ∧ w.cell? ⟨b, 5, none⟩ = some (.int .i64 g.s) ∧ w.cell? ⟨b, 6, none⟩ = some (.int .i64 g.t) ∧ w.cell? ⟨b, 7, none⟩ = some (.int .i64 g.o) ∧ w.cell? ⟨b, 8, none⟩ = some (.int .i64 st) ∧ w.cell? ⟨b, 9, none⟩ = some (.int .i64 ep) := ⟨h.c0, h.c1, h.c2, h.c3, h.c4, h.c5, h.c6, h.c7, h.c8, h.c9⟩
/-- one that was laid as a parameter -/
theorem spot_new (w : World) (pa pf : Option Addr) (g : GeoS) (st ep : Int) (e : Nat) : SpotAt (w.alloc (.cells (cellsP pa pf g st ep) e)) w.heap.size pa pf g st ep := by
  have cc : ∀ j, (w.alloc (.cells (cellsP pa pf g st ep) e)).cell? ⟨w.heap.size, j, none⟩ = (cellsP pa pf g st ep)[j]? := fun j => World.cell?_alloc_new _ _ _ _
  exact ⟨(cc 0).trans rfl, (cc 1).trans rfl, (cc 2).trans rfl, (cc 3).trans rfl, (cc 4).trans rfl, (cc 5).trans rfl, (cc 6).trans rfl, (cc 7).trans rfl, (cc 8).trans rfl, (cc 9).trans rfl⟩
theorem spot_laid (w : World) (pa pf : Option Addr) (g : GeoS) (st ep : Int) (e : Nat) : ∀ W, Below (w.alloc (.cells (cellsP pa pf g st ep) e)).heap.size (w.alloc (.cells (cellsP pa pf g st ep) e)) W → SpotAt W w.heap.size pa pf g st ep ∧ Below w.heap.size w W := fun W hW =>
  ⟨(spot_new w pa pf g st ep e).below (by simp) hW, (belL w _).trans (hW.mono (by simp))⟩
theorem FieldAt.turnG {G : Nat → Prop} {fb : Nat} (h : FieldAt w fb) (hg : ¬ G fb) (t : TurnG G w w') : FieldAt w' fb :=
  ⟨fun i hi => (t.cell (p := ⟨fb, i, none⟩) h.lt hg).trans (h.powers i hi), fun i hi => (t.cell (p := ⟨fb, 255 + i, none⟩) h.lt hg).trans (h.places i hi), Nat.lt_of_lt_of_le h.lt t.size⟩
theorem FieldAt.belowF {fb : Nat} (h : FieldAt w fb) (t : Below w.heap.size w w') : FieldAt w' fb := h.turnG (G := fun _ => False) (fun e => e) (Below.turnG t _)
end
end Go.Proofs.YtddnfhfangfgeaaGreat.Gf

namespace Go.Proofs.YtddnfhfangfgeaaGreat.Gf
set_option linter.unusedVariables false
set_option linter.unusedSimpArgs false
/-- rows that are not there do not matter -/
theorem sh_same {k m : Int} {hs : List Bool} {L M : List (List UInt8)} (hl : L.length = M.length) (h : ∀ i, hb hs i = true → ro L i = ro M i) : shX k m hs L = shX k m hs M ∧ shR k m hs L = shR k m hs M ∧ shP k m hs L = shP k m hs M := by
  have ea : ∀ t, atF hs L t = atF hs M t := fun t => by
    funext i
    unfold atF
    cases e : hb hs i
    · rfl
    · rw [h i e]
  have ew : ∀ n t, wdAt hs L n t = wdAt hs M n t := fun n t => by unfold wdAt; rw [ea t]
  have ex : ∀ k m t, pX k m hs L t = pX k m hs M t := fun k m t => by unfold pX; rw [ew]
  have er : ∀ k m t, pR k m hs L t = pR k m hs M t := fun k m t => by unfold pR; rw [ew]
  have ep : ∀ k m t, pP k m hs L t = pP k m hs M t := fun k m t => by unfold pP; rw [ew]
  have eo : oneX hs L = oneX hs M := by
    classical
    by_cases q : EvenH hs M ∧ ∃ i, hb hs i = true
    · obtain ⟨i, hi⟩ := q.2
      rw [oneX_ok (n := (ro M i).length) q.2 (fun j hj => by rw [h j hj]; exact q.1 j i hj hi), oneX_ok (n := (ro M i).length) q.2 (fun j hj => q.1 j i hj hi)]
    · have q2 : ¬ (EvenH hs L ∧ ∃ i, hb hs i = true) := fun e => q ⟨fun i j hi hj => by rw [← h i hi, ← h j hj]; exact e.1 i j hi hj, e.2⟩
      unfold oneX
      rw [if_neg q, if_neg q2]
  have eh : ∀ k m r, hurtP k m hs L r = hurtP k m hs M r := fun k m r => by
    induction r with
    | zero => rfl
    | succ r ih => funext i; show mrkF (hurtP k m hs L r) _ i = mrkF (hurtP k m hs M r) _ i; rw [ih, ep]
  have ew2 : ∀ k m r, rowsP k m hs L r = rowsP k m hs M r := fun k m r => by
    unfold rowsP
    exact mkL_congr fun i _ => by rw [show (fun t => co (pR k m hs L t) i) = (fun t => co (pR k m hs M t) i) from funext fun t => by rw [er]]
  have e0 : shX k m hs L = shX k m hs M := by
    unfold shX
    rw [hl, eo]
    simp only [ex]
  exact ⟨e0, by unfold shR; rw [e0, eo, ew2], by unfold shP; rw [e0, eo, eh]⟩
theorem hb_nil (i : Nat) : hb [] i = false := hb_ge (Nat.zero_le _)
/-- of few enough missing all are put right, none is wrong -/
theorem sh_back {k m n : Nat} {D M : List (List UInt8)} {hs : List Bool} (h1 : 1 ≤ k) (h2 : k + m ≤ 256) (hD : D.length = k) (hE : Even D) (hn : (ro D 0).length = n) (hhs : hs.length = k + m) (hM : M.length = k + m) (hr : ∀ i, hb hs i = true → ro M i = ro (encL m k (parF k) D) i) (hf : cnt (fun i => !hb hs i) (k + m) ≤ m) :
    shX k m hs M = 0 ∧ shR k m hs M = encL m k (parF k) D ∧ shP k m hs M = [] := by
  have hw : ∀ i, wrSt hs [] n i = false := fun i => by unfold wrSt; rw [hb_nil]; simp
  obtain ⟨s1, s2, s3⟩ := stripes10 (bd := []) (y := 1) h1 h2 hD hE hn hhs (by decide) (by omega) (by rw [cnt_none fun i _ => hw i]; omega)
  have e := @sh_same (k : Int) (m : Int) hs M (mkL (k + m) (mdS (encL m k (parF k) D) hs [] 1 n)) (by rw [hM, mkL_length]) (fun i hi => by
    have hi2 : i < k + m := by rw [← hhs]; exact hb_in hi
    rw [ro_mkL hi2, hr i hi]
    unfold mdS
    rw [if_neg (by rw [hi]; decide), if_neg (by rw [hb_nil]; simp)])
  exact ⟨e.1.trans s1, e.2.1.trans s2, (e.2.2.trans s3).trans (plc_none fun i _ => hw i)⟩
/-- of too few that are there nothing is told -/
theorem sh_lost {k m n : Nat} {M : List (List UInt8)} {hs : List Bool} (h1 : 1 ≤ k) (h2 : k + m ≤ 256) (hn : 1 ≤ n) (hhs : hs.length = k + m) (hM : M.length = k + m) (hr : ∀ i, hb hs i = true → (ro M i).length = n) (hf : m < cnt (fun i => !hb hs i) (k + m)) : shX k m hs M ≠ 0 := by
  have okc : OkC (k : Int) (m : Int) := ⟨by omega, by omega, by omega⟩
  by_cases q : ∃ i, hb hs i = true
  · have h3 := oneX_ok q hr
    have hx : pX k m hs M 0 = 100 := by
      unfold pX
      refine (many10 h1 h2 (wdAt_length _ _ _ _) (by rw [notM_length]; exact hhs) ?_).1
      rw [cnt_congr (q := fun i => !hb hs i) fun i hi => notM_at (by omega)]
      exact hf
    rw [(sh_many okc hhs hM h3 (t := 0) (by omega) (by rw [hx]; decide)).1]
    decide
  · rw [(sh_shard okc (fun e => e.2.2 (oneX_none q))).1]
    decide
/-- may a stripe and an epoch be? -/
def OkT (g : GeoS) (st ep : Int) : Prop := okG g ∧ 0 ≤ st ∧ st < g.s ∧ 0 ≤ ep ∧ ep ≤ 2147483647
instance (g : GeoS) (st ep : Int) : Decidable (OkT g st ep) := inferInstanceAs (Decidable (_ ∧ _ ∧ _ ∧ _ ∧ _))
def ckT (g : GeoS) (st ep : Int) : Int := if okG g then (if OkT g st ep then 0 else 1) else 50
theorem ckT_ok {g : GeoS} {st ep : Int} (h : OkT g st ep) : ckT g st ep = 0 := by unfold ckT; rw [if_pos h.1, if_pos h]
theorem ckT_geo {g : GeoS} {st ep : Int} (h : ¬ okG g) : ckT g st ep = 50 := if_neg h
theorem ckT_arg {g : GeoS} {st ep : Int} (h : okG g) (h2 : ¬ OkT g st ep) : ckT g st ep = 1 := by unfold ckT; rw [if_pos h, if_neg h2]
theorem ckT_not {g : GeoS} {st ep : Int} (h : ¬ OkT g st ep) : ckT g st ep ≠ 0 := by
  unfold ckT
  rw [if_neg h]
  split <;> decide
/-- how many shards -/
def nT (g : GeoS) : Nat := g.k.toNat + g.m.toNat
theorem okG_nat {g : GeoS} (h : okG g) : ((g.k.toNat : Nat) : Int) = g.k ∧ ((g.m.toNat : Nat) : Int) = g.m ∧ ((g.z.toNat : Nat) : Int) = g.z ∧ 1 ≤ g.k.toNat ∧ nT g ≤ 32 ∧ 1 ≤ g.z.toNat ∧ g.z.toNat ≤ 4096 ∧ ((nT g : Nat) : Int) = g.k + g.m := by
  obtain ⟨h1, h2, h3, h4, h5, _⟩ := h
  unfold nT
  refine ⟨by omega, by omega, by omega, by omega, by omega, by omega, by omega, by omega⟩
theorem nT_pos {g : GeoS} (h : okG g) : 1 ≤ nT g := by have := (okG_nat h).2.2.2.1; unfold nT; omega
theorem okG_c {g : GeoS} (h : okG g) : OkC g.k g.m := ⟨h.1, h.2.1, by have := h.2.2.1; omega⟩
/-- data's parts, and its shards -/
def parT (g : GeoS) (D : List UInt8) : List (List UInt8) := mkL g.k.toNat (fun i => (D.drop (i * g.z.toNat)).take g.z.toNat)
def shT (g : GeoS) (D : List UInt8) : List (List UInt8) := encL g.m.toNat g.k.toNat (parF g.k.toNat) (parT g D)
def LenT (g : GeoS) (D : List UInt8) : Prop := (D.length : Int) = g.k * g.z
instance (g : GeoS) (D : List UInt8) : Decidable (LenT g D) := inferInstanceAs (Decidable (_ = _))
section
variable {g : GeoS} {D : List UInt8}
theorem LenT.nat (h : LenT g D) (hg : okG g) : D.length = g.k.toNat * g.z.toNat := by
  obtain ⟨e1, e2, e3, _⟩ := okG_nat hg
  have : ((D.length : Nat) : Int) = ((g.k.toNat * g.z.toNat : Nat) : Int) := by rw [h, Int.natCast_mul, e1, e3]
  exact Int.ofNat.inj this
theorem parT_length : (parT g D).length = g.k.toNat := mkL_length _ _
theorem parT_row (h : LenT g D) (hg : okG g) {i : Nat} (hi : i < g.k.toNat) : (ro (parT g D) i).length = g.z.toNat := by
  unfold parT
  rw [ro_mkL hi, List.length_take, List.length_drop, h.nat hg]
  have : (i + 1) * g.z.toNat ≤ g.k.toNat * g.z.toNat := Nat.mul_le_mul_right _ hi
  rw [Nat.add_mul] at this
  omega
theorem parT_even (h : LenT g D) (hg : okG g) : Even (parT g D) := fun i hi => by
  rw [parT_length] at hi
  rw [parT_row h hg hi, parT_row h hg (by have := (okG_nat hg).2.2.2.1; omega)]
theorem parT_first (h : LenT g D) (hg : okG g) : (ro (parT g D) 0).length = g.z.toNat := parT_row h hg (by have := (okG_nat hg).2.2.2.1; omega)
theorem shT_length : (shT g D).length = nT g := by unfold shT; rw [encL_length, parT_length]; rfl
theorem shT_row (h : LenT g D) (hg : okG g) {i : Nat} (hi : i < nT g) : (ro (shT g D) i).length = g.z.toNat := by
  unfold shT
  rw [enc_len (parT_even h hg) (by rw [parT_length]; exact hi), parT_first h hg]
theorem parts_join (n z : Nat) : ∀ (D : List UInt8), D.length = n * z → (mkL n (fun i => (D.drop (i * z)).take z)).flatten = D := by
  induction n with
  | zero =>
    intro D h
    have e : D = [] := List.length_eq_zero_iff.1 (by rw [h, Nat.zero_mul])
    subst e
    rfl
  | succ n ih =>
    intro D h
    have e : mkL (n + 1) (fun i => (D.drop (i * z)).take z) = D.take z :: mkL n (fun i => ((D.drop z).drop (i * z)).take z) := by
      unfold mkL
      rw [List.range_succ_eq_map, List.map_cons, List.map_map]
      refine congr (congrArg _ (by simp)) ?_
      refine List.map_congr_left fun i _ => ?_
      show (D.drop ((i + 1) * z)).take z = _
      rw [List.drop_drop, Nat.add_mul, Nat.one_mul, Nat.add_comm]
    rw [e, List.flatten_cons, ih (D.drop z) (by rw [List.length_drop, h, Nat.add_mul]; omega), List.take_append_drop]
theorem shT_data (h : LenT g D) (hg : okG g) : ((shT g D).take g.k.toNat).flatten = D := by
  unfold shT encL
  rw [List.take_append_of_le_length (by rw [parT_length]; exact Nat.le_refl _), List.take_of_length_le (by rw [parT_length]; exact Nat.le_refl _)]
  exact parts_join _ _ _ (h.nat hg)
end
/-- a shard that is written -/
def pkT (g : GeoS) (st ep : Int) (b : List UInt8) : List UInt8 := pkS (stG g st).toNat ep.toNat b
def puX (a : ArS) (g : GeoS) (st ep : Int) (sh : Nat) (b : List UInt8) : Int := wrAX a (diG g st (sh : Int)) (stG g st) (pkT g st ep b)
def puS (a : ArS) (g : GeoS) (st ep : Int) (sh : Nat) (b : List UInt8) : ArS := wrAS a (diG g st (sh : Int)) (stG g st) (pkT g st ep b)
/-- some shards of R, those of a list of places, are written, one by one -/
def psT (a : ArS) (g : GeoS) (st ep : Int) (R : List (List UInt8)) (B : List Nat) : Nat → ArS
  | 0 => a
  | i + 1 => puS (psT a g st ep R B i) g st ep (B.getD i 0) (ro R (B.getD i 0))
/-- how many were written without an error -/
def pnT (a : ArS) (g : GeoS) (st ep : Int) (R : List (List UInt8)) (B : List Nat) : Nat → Nat
  | 0 => 0
  | i + 1 => pnT a g st ep R B i + (if puX (psT a g st ep R B i) g st ep (B.getD i 0) (ro R (B.getD i 0)) = 0 then 1 else 0)
/-- is a crash told? -/
def pcT (a : ArS) (g : GeoS) (st ep : Int) (R : List (List UInt8)) (B : List Nat) : Bool := decide (B ≠ []) && (psT a g st ep R B (B.length - 1)).off
def swX (a : ArS) (g : GeoS) (st ep : Int) (D : List UInt8) : Int := if OkT g st ep then (if LenT g D then (if pcT a g st ep (shT g D) (List.range (nT g)) = true then 130 else 0) else 1) else ckT g st ep
def swS (a : ArS) (g : GeoS) (st ep : Int) (D : List UInt8) : ArS := if OkT g st ep ∧ LenT g D then psT a g st ep (shT g D) (List.range (nT g)) (nT g) else a
/-- what is read of a shard -/
def rbT (a : ArS) (g : GeoS) (st : Int) (i : Nat) : List UInt8 := rdAB a (diG g st (i : Int)) (stG g st)
def hsF (a : ArS) (g : GeoS) (st ep : Int) (i : Nat) : Bool := decide (upX (stG g st) (rbT a g st i) = 0 ∧ ((upN (stG g st) (rbT a g st i) : Nat) : Int) = ep ∧ (((upD (stG g st) (rbT a g st i)).length : Nat) : Int) = g.z)
def hsT (a : ArS) (g : GeoS) (st ep : Int) : List Bool := (List.range (nT g)).map (hsF a g st ep)
def dsT (a : ArS) (g : GeoS) (st : Int) : List (List UInt8) := mkL (nT g) (fun i => upD (stG g st) (rbT a g st i))
noncomputable def alX (a : ArS) (g : GeoS) (st ep : Int) : Int := if a.off = true then 130 else if shX g.k g.m (hsT a g st ep) (dsT a g st) = 0 then 0 else 150
noncomputable def alR (a : ArS) (g : GeoS) (st ep : Int) : List (List UInt8) := shR g.k g.m (hsT a g st ep) (dsT a g st)
noncomputable def alP (a : ArS) (g : GeoS) (st ep : Int) : List Nat := shP g.k g.m (hsT a g st ep) (dsT a g st)
def lvT (a : ArS) (d : Int) : Bool := decide (thA a d) && !(diA a d).dead
noncomputable def bdF (a : ArS) (g : GeoS) (st ep : Int) (i : Nat) : Bool := (!hsF a g st ep i || decide (i ∈ alP a g st ep)) && lvT a (diG g st (i : Int))
noncomputable def bdT (a : ArS) (g : GeoS) (st ep : Int) : List Nat := plc (bdF a g st ep) (nT g)
noncomputable def rtX (a : ArS) (g : GeoS) (st ep : Int) : Int := if OkT g st ep then alX a g st ep else ckT g st ep
open Classical in
noncomputable def rtD (a : ArS) (g : GeoS) (st ep : Int) : List UInt8 := if rtX a g st ep = 0 then ((alR a g st ep).take g.k.toNat).flatten else []
open Classical in
noncomputable def rtB (a : ArS) (g : GeoS) (st ep : Int) : List Nat := if rtX a g st ep = 0 then bdT a g st ep else []
open Classical in
noncomputable def fxX (a : ArS) (g : GeoS) (st ep : Int) : Int := if rtX a g st ep = 0 then (if pcT a g st ep (alR a g st ep) (bdT a g st ep) = true then 130 else 0) else rtX a g st ep
open Classical in
noncomputable def fxN (a : ArS) (g : GeoS) (st ep : Int) : Nat := if fxX a g st ep = 0 then pnT a g st ep (alR a g st ep) (bdT a g st ep) (bdT a g st ep).length else 0
open Classical in
noncomputable def fxS (a : ArS) (g : GeoS) (st ep : Int) : ArS := if rtX a g st ep = 0 then psT a g st ep (alR a g st ep) (bdT a g st ep) (bdT a g st ep).length else a
end Go.Proofs.YtddnfhfangfgeaaGreat.Gf

namespace Go.Proofs.YtddnfhfangfgeaaGreat.Gf
set_option linter.unusedVariables false
set_option linter.unusedSimpArgs false
section
variable {a : ArS} {g : GeoS} {st ep : Int}
theorem faX_in (d : DkS) (x : Int) : faX d x = 0 ∨ faX d x = 120 ∨ faX d x = 121 := by
  unfold faX
  split
  · exact Or.inr (Or.inl rfl)
  · split
    · exact Or.inl rfl
    · exact Or.inr (Or.inr rfl)
theorem wrAX_crash {i ad : Int} {b : List UInt8} : wrAX a i ad b = 130 ↔ a.off = true := by
  unfold wrAX
  cases h : a.off
  · rw [if_neg (by decide)]
    refine ⟨fun e => ?_, fun e => by cases e⟩
    exfalso
    split at e
    · unfold wrX at e
      rcases faX_in (diA a i) ad with q | q | q <;> rw [q] at e
      · rw [if_pos rfl] at e
        split at e <;> cases e
      · rw [if_neg (by decide)] at e; cases e
      · rw [if_neg (by decide)] at e; cases e
    · cases e
  · rw [if_pos rfl]
    exact ⟨fun _ => rfl, fun _ => rfl⟩
theorem puX_crash {sh : Nat} {b : List UInt8} : puX a g st ep sh b = 130 ↔ a.off = true := wrAX_crash
theorem puS_off (h : a.off = true) (sh : Nat) (b : List UInt8) : puS a g st ep sh b = a := if_pos h
theorem ps_off {R : List (List UInt8)} {B : List Nat} {i : Nat} (h : (psT a g st ep R B i).off = true) : ∀ j, psT a g st ep R B (i + j) = psT a g st ep R B i
  | 0 => rfl
  | j + 1 => by
    show puS (psT a g st ep R B (i + j)) g st ep _ _ = _
    rw [ps_off h j]
    exact puS_off h _ _
theorem pc_at {R : List (List UInt8)} {B : List Nat} {i : Nat} (hi : i < B.length) (h : (psT a g st ep R B i).off = true) : pcT a g st ep R B = true ∧ psT a g st ep R B B.length = psT a g st ep R B i := by
  have e1 := ps_off h (B.length - 1 - i)
  have e2 := ps_off h (B.length - i)
  rw [show i + (B.length - 1 - i) = B.length - 1 by omega] at e1
  rw [show i + (B.length - i) = B.length by omega] at e2
  refine ⟨?_, e2⟩
  have hne : B ≠ [] := fun e => by rw [e] at hi; exact absurd hi (Nat.not_lt_zero _)
  unfold pcT
  rw [e1, h, Bool.and_true]
  exact decide_eq_true hne
theorem pc_end {R : List (List UInt8)} {B : List Nat} (h : ∀ i, i < B.length → (psT a g st ep R B i).off = false) : pcT a g st ep R B = false := by
  unfold pcT
  by_cases e : B = []
  · have hd : decide (B ≠ []) = false := decide_eq_false (fun h => h e)
    rw [hd]; rfl
  · have hl : 0 < B.length := List.length_pos_iff.2 e
    rw [h (B.length - 1) (by omega), Bool.and_false]
/-- what is read of a stripe where some shards are hurt -/
structure HeldT (a : ArS) (g : GeoS) (st ep : Int) (L : List (List UInt8)) (hurt : Nat → Bool) : Prop where
  ok : ∀ i, i < nT g → hurt i = false → rbT a g st i = pkT g st ep (ro L i)
  bad : ∀ i, i < nT g → hurt i = true → hsF a g st ep i = false
  off : a.off = false
theorem stG_in (h : okG g) (h1 : 0 ≤ st) (h2 : st < g.s) : stG g st = 5 + g.t + st ∧ 0 ≤ stG g st ∧ stG g st ≤ 400 := by
  have e : stG g st = 5 + g.t + st := if_pos ⟨h, h1, h2⟩
  obtain ⟨_, _, _, _, _, o6, o7, o8, o9, _, _⟩ := h
  rw [e]
  refine ⟨rfl, by omega, by omega⟩
theorem OkT.se (h : OkT g st ep) {b : List UInt8} (hb : b.length ≤ 4096) : OkSe (stG g st) ep b.length := by
  obtain ⟨e, e1, e2⟩ := stG_in h.1 h.2.1 h.2.2.1
  exact ⟨⟨e1, by omega⟩, ⟨h.2.2.2.1, h.2.2.2.2⟩, hb⟩
theorem pk_has (h : OkT g st ep) {b : List UInt8} (hb : b.length ≤ 4096) : upX (stG g st) (pkT g st ep b) = 0 ∧ upN (stG g st) (pkT g st ep b) = ep.toNat ∧ upD (stG g st) (pkT g st ep b) = b := by
  obtain ⟨k1, k2, k3⟩ := ok_pk (h.se hb)
  obtain ⟨u1, u2, u3⟩ := up_ok k1
  exact ⟨u1, u2.trans k2, u3.trans k3⟩
theorem has_pk (h : OkT g st ep) {i : Nat} {b : List UInt8} (hb : b.length = g.z.toNat) (e : rbT a g st i = pkT g st ep b) : hsF a g st ep i = true ∧ upD (stG g st) (rbT a g st i) = b := by
  have hz := okG_nat h.1
  obtain ⟨u1, u2, u3⟩ := pk_has h (b := b) (by omega)
  rw [← e] at u1 u2 u3
  refine ⟨?_, u3⟩
  unfold hsF
  refine decide_eq_true ⟨u1, ?_, ?_⟩
  · rw [u2]; have := h.2.2.2.1; omega
  · rw [u3, hb]; exact hz.2.2.1
/-- of another epoch nothing is there -/
theorem has_other {e' : Int} (h : OkT g st ep) {i : Nat} {b : List UInt8} (hb : b.length ≤ 4096) (e : rbT a g st i = pkT g st ep b) (hne : e' ≠ ep) : hsF a g st e' i = false := by
  obtain ⟨u1, u2, u3⟩ := pk_has h hb
  rw [← e] at u1 u2 u3
  unfold hsF
  refine decide_eq_false fun q => hne ?_
  have := q.2.1
  rw [u2] at this
  have := h.2.2.2.1
  omega
theorem hsT_length : (hsT a g st ep).length = nT g := by simp [hsT]
theorem hsT_hb {i : Nat} (hi : i < nT g) : hb (hsT a g st ep) i = hsF a g st ep i := by simp [hsT, hb, List.getD, hi]
theorem dsT_length : (dsT a g st).length = nT g := mkL_length _ _
theorem hs_cnt : cnt (fun i => !hb (hsT a g st ep) i) (nT g) = cnt (fun i => !hsF a g st ep i) (nT g) := cnt_congr fun i hi => by rw [hsT_hb hi]
section
variable {D : List UInt8} {hurt : Nat → Bool}
theorem held_has (hT : OkT g st ep) (hD : LenT g D) (h : HeldT a g st ep (shT g D) hurt) {i : Nat} (hi : i < nT g) : hsF a g st ep i = !hurt i := by
  cases e : hurt i
  · exact (has_pk hT (shT_row hD hT.1 hi) (h.ok i hi e)).1
  · exact h.bad i hi e
theorem held_all (hT : OkT g st ep) (hD : LenT g D) (h : HeldT a g st ep (shT g D) hurt) (hf : cnt hurt (nT g) ≤ g.m.toNat) : alX a g st ep = 0 ∧ alR a g st ep = shT g D ∧ alP a g st ep = [] := by
  obtain ⟨z1, z2, z3, z4, z5, z6, z7, z8⟩ := okG_nat hT.1
  have hc : cnt (fun i => !hb (hsT a g st ep) i) (nT g) = cnt hurt (nT g) := hs_cnt.trans (cnt_congr fun i hi => by rw [held_has hT hD h hi, Bool.not_not])
  obtain ⟨s1, s2, s3⟩ := sh_back (k := g.k.toNat) (m := g.m.toNat) (n := g.z.toNat) (D := parT g D) (M := dsT a g st) (hs := hsT a g st ep) z4 (by unfold nT at z5; omega) parT_length (parT_even hD hT.1) (parT_first hD hT.1) hsT_length dsT_length (fun i hi => by
    have hi2 : i < nT g := by rw [← hsT_length (a := a) (st := st) (ep := ep)]; exact hb_in hi
    rw [hsT_hb hi2, held_has hT hD h hi2] at hi
    have hu : hurt i = false := by cases e : hurt i with
      | false => rfl
      | true => rw [e] at hi; cases hi
    unfold dsT
    rw [ro_mkL hi2]
    exact (has_pk hT (shT_row hD hT.1 hi2) (h.ok i hi2 hu)).2) (by show cnt _ (nT g) ≤ _; rw [hc]; exact hf)
  rw [z1, z2] at s1 s2 s3
  refine ⟨?_, s2, s3⟩
  unfold alX
  rw [if_neg (by rw [h.off]; decide), if_pos s1]
theorem held_read (hT : OkT g st ep) (hD : LenT g D) (h : HeldT a g st ep (shT g D) hurt) (hf : cnt hurt (nT g) ≤ g.m.toNat) : rtX a g st ep = 0 ∧ rtD a g st ep = D ∧ rtB a g st ep = plc (fun i => hurt i && lvT a (diG g st (i : Int))) (nT g) := by
  obtain ⟨x1, x2, x3⟩ := held_all hT hD h hf
  have r0 : rtX a g st ep = 0 := by unfold rtX; rw [if_pos hT, x1]
  refine ⟨r0, ?_, ?_⟩
  · unfold rtD
    rw [if_pos r0, x2, shT_data hD hT.1]
  · unfold rtB bdT plc
    rw [if_pos r0]
    refine List.filter_congr fun i hi => ?_
    unfold bdF
    rw [x3, held_has hT hD h (List.mem_range.1 hi)]
    simp
theorem held_bd (hT : OkT g st ep) (hD : LenT g D) (h : HeldT a g st ep (shT g D) hurt) (hf : cnt hurt (nT g) ≤ g.m.toNat) : bdT a g st ep = plc (fun i => hurt i && lvT a (diG g st (i : Int))) (nT g) := by
  obtain ⟨r0, _, r2⟩ := held_read hT hD h hf
  rw [← r2]
  unfold rtB
  rw [if_pos r0]
end
/-- where too many are missing the stripe is lost -/
theorem read_lost (hT : OkT g st ep) (ho : a.off = false) (hr : ∀ i, i < nT g → hsF a g st ep i = true → (upD (stG g st) (rbT a g st i)).length = g.z.toNat) (hf : g.m.toNat < cnt (fun i => !hsF a g st ep i) (nT g)) : rtX a g st ep = 150 ∧ rtD a g st ep = [] ∧ rtB a g st ep = [] := by
  obtain ⟨z1, z2, z3, z4, z5, z6, z7, z8⟩ := okG_nat hT.1
  have s := sh_lost (k := g.k.toNat) (m := g.m.toNat) (n := g.z.toNat) (M := dsT a g st) (hs := hsT a g st ep) z4 (by unfold nT at z5; omega) z6 hsT_length dsT_length (fun i hi => by
    have hi2 : i < nT g := by rw [← hsT_length (a := a) (st := st) (ep := ep)]; exact hb_in hi
    rw [hsT_hb hi2] at hi
    unfold dsT
    rw [ro_mkL hi2]
    exact hr i hi2 hi) (by show _ < cnt _ (nT g); rw [hs_cnt]; exact hf)
  rw [z1, z2] at s
  have r0 : rtX a g st ep = 150 := by
    unfold rtX alX
    rw [if_pos hT, if_neg (by rw [ho]; decide), if_neg s]
  refine ⟨r0, ?_, ?_⟩
  · unfold rtD; rw [r0, if_neg (by decide)]
  · unfold rtB; rw [r0, if_neg (by decide)]
theorem has_len {i : Nat} (h : okG g) (e : hsF a g st ep i = true) : (upD (stG g st) (rbT a g st i)).length = g.z.toNat := by
  have := (of_decide_eq_true e).2.2
  have := (okG_nat h).2.2.1
  omega
theorem cnt_full {p : Nat → Bool} : ∀ {n : Nat}, (∀ i, i < n → p i = true) → cnt p n = n
  | 0, _ => rfl
  | n + 1, h => by
    show cnt p n + (if p n then 1 else 0) = n + 1
    rw [cnt_full fun i hi => h i (by omega), h n (by omega)]
    rfl
theorem read_none (hT : OkT g st ep) (ho : a.off = false) (h : ∀ i, i < nT g → hsF a g st ep i = false) : rtX a g st ep = 150 ∧ rtD a g st ep = [] ∧ rtB a g st ep = [] :=
  read_lost hT ho (fun i hi e => by rw [h i hi] at e; cases e) (by
    rw [cnt_full fun i hi => by rw [h i hi]; rfl]
    have := (okG_nat hT.1).2.2.2.1
    unfold nT
    omega)
end
end Go.Proofs.YtddnfhfangfgeaaGreat.Gf
