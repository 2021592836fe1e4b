/- PROVED: for all byte slices p, q and every int n the call PolyOrder(p, q, n) returns true, and its arguments read behind it as before; no conditions. -/
import Derived.Test.YtjojcdikkgnfgaaRows
import Derived.Test.YtjojcdikkgnfgaaPoAwake
import Derived.Test.YtjojcdikkgnfgaaPoLaws
import Derived.Test.YtjojcdikkgnfgaaPoZeros
import Derived.Test.YtjojcdikkgnfgaaPoMulMath
import Derived.Test.YtjojcdikkgnfgaaGfBytes
import Derived.Test.YtjojcdikkgnfgaaPoRNorm
import Derived.WalkKit
import Derived.ProofKit
import Derived.OpenShut
import Derived.ShutString
import Derived.ChangeOld
import Derived.Below
namespace Go.Proofs.Ytjojcdikkgnfgaa.polyOrder
open Go.ChangeShapes Go.WideShapes Go.ChangeAt Go.RowKit
open Go.ChangeMaps (open_string shut_string)
set_option linter.unusedVariables false

theorem own : ownKnob Try.prog.godebug = none := by kernel_rfl
theorem laidOut : laidOutB Try.prog = true := by kernel_rfl

/-- WHAT THE WALK IS TOLD OF A SLICE OF INTEGERS THAT CAME IN: it is nil; or it leads to a row of 'cap' cells, the numbers 'zs' (the first 'len' are its elements, the rest its spare room), each fitting its kind. -/
def IsRow (k : IntKind) (w : World) (a : Option Addr) (len cap : Nat) (zs : List Int) : Prop :=
  (a = none ∧ len = 0 ∧ cap = 0 ∧ zs = []) ∨
  ∃ x, a = some x ∧ len ≤ cap ∧ cap ≤ maxLen ∧ zs.length = cap ∧ (∀ i, i < zs.length → w.cell? (x.add i) = some (.int k (zs.getD i 0))) ∧ ∀ n ∈ zs, (Lit.int k n).wf = true

open Gf
set_option linter.unusedSimpArgs false
set_option maxRecDepth 100000 in
set_option maxHeartbeats 2000000 in
theorem walk (a0 : Option Addr) (len0 cap0 : Nat) (z0 : List Int) (a1 : Option Addr) (len1 cap1 : Nat) (z1 : List Int) (a2 : Int) (w : World) (w0 : IsRow .u8 w a0 len0 cap0 z0) (w1 : IsRow .u8 w a1 len1 cap1 z1) (w2 : (Lit.int .i64 a2).wf = true) :
    Calls Try.prog 8 #[.slice a0 len0 cap0, .slice a1 len1 cap1, .int .i64 a2] w fun e w' => e = .returned (.bool true) ∧ Below w.heap.size w w' := by
  obtain ⟨p, rfl, hp⟩ := rd_row w0
  obtain ⟨q, rfl, hq⟩ := rd_row w1
  obtain ⟨n1, n2⟩ := i64_bounds w2
  obtain ⟨i0, hi, hz0, hz1, hz2⟩ := info_parts info_u8
  by_cases hs : p.length ≤ 50 ∧ q.length ≤ 50
  · have h1 : p.length ≤ 50 := hs.1
    have h2 : q.length ≤ 50 := hs.2
    clear hs
    have hdeg : ((norm p).length = 0 ∧ (mulP p q).length = 0) ∨ (0 < (norm p).length ∧ (norm q).length = 0 ∧ (mulP p q).length = 0) ∨ (0 < (norm p).length ∧ 0 < (norm q).length ∧ (mulP p q).length = (norm p).length + (norm q).length - 1) := by
      rw [mulP_length]
      by_cases e1 : (norm p).length = 0
      · exact Or.inl ⟨e1, if_pos (Or.inl e1)⟩
      · by_cases e2 : (norm q).length = 0
        · exact Or.inr (Or.inl ⟨by omega, e2, if_pos (Or.inr e2)⟩)
        · exact Or.inr (Or.inr ⟨by omega, by omega, if_neg (by omega)⟩)
    have hpl := norm_length_le p
    have hql := norm_length_le q
    have x1 : sameB (mulP p q) (mulP p q) = true := sameB_self _
    have x2 : sameB (addP p q) (addP p q) = true := sameB_self _
    by_cases hn : a2 < 0
    · obtain ⟨m, hm⟩ : ∃ m : Nat, -(a2 + 1) = (m : Int) := ⟨(-(a2 + 1)).toNat, by omega⟩
      obtain ⟨k, hk⟩ : ∃ k : Nat, (m : Int) % 10 = (k : Int) := ⟨m % 10, by omega⟩
      by_cases hp0 : p = []
      · subst hp0
        rcases a0 with _ | x
        all_goals
          go_enter Try.func8, Try.ntmps8
          have B : Below w.heap.size w w := Below.refl _ _
          go_wp2_with fail
          refine (awake2_any _).mono ?_
          rintro e u1 ⟨rfl, b⟩
          replace hp := hp.below (Below.next (by repeat (first | exact Below.refl _ _ | apply Below.draws | apply below_lit)) b)
          replace hq := hq.below (Below.next (by repeat (first | exact Below.refl _ _ | apply Below.draws | apply below_lit)) b)
          replace B := Below.next B (Below.next (by repeat (first | exact Below.refl _ _ | apply Below.draws | apply below_lit)) b)
          clear b
          go_wp2_with fail
          refine (new_any _).mono ?_
          rintro e u2 ⟨rfl, F, hO⟩
          have b := hO.below
          clear hO
          replace hp := hp.below (Below.next (by repeat (first | exact Below.refl _ _ | apply Below.draws | apply below_lit)) b)
          replace hq := hq.below (Below.next (by repeat (first | exact Below.refl _ _ | apply Below.draws | apply below_lit)) b)
          replace B := Below.next B (Below.next (by repeat (first | exact Below.refl _ _ | apply Below.draws | apply below_lit)) b)
          clear b
          have hown0 := World.ownsRow_lit (base := World.heap u2 |>.size) (e := 5) (size := 1) u2 #[] 0 (Nat.le_refl _) (Nat.zero_le _) rfl
          go_wp2_with (at_builtin; refine wpList_append_zeros _ rfl (.tmp 52) (.tmp 54) 23 3 rfl (World.heap u2 |>.size) 5 i0 Try.underlying23 Try.underlying3 hi hz0 hz1 hz2 _ 0 0 [] rfl hown0 k _ rfl (by omega) (by omega) (by omega) (by simp) ?_; intro vl wl hownl hgrowl)
          have rl : Rd wl vl ([] ++ List.replicate k 0) := Rd.owned (base := World.heap u2 |>.size) (e := 5) (by rw [vb_zeros]; simpa using hownl)
          have b : Below (World.heap u2 |>.size) u2 wl := ((Below.refl _ _).alloc (Nat.le_refl _) _).grown hgrowl (by simp) (fun g hg => by simp at hg; omega)
          clear hownl hgrowl hown0
          have hll : ([] ++ List.replicate k (0 : UInt8)).length ≤ 100 := by rw [List.length_append, List.length_replicate]; simp; omega
          have hx1 : mulP q ([] ++ List.replicate k 0) = mulP [] q := by rw [mulP_comm]; exact mulP_congr (co_zeros _ _) rfl
          have hx2 : addP q ([] ++ List.replicate k 0) = addP [] q := by rw [addP_comm]; exact addP_congr (co_zeros _ _) rfl
          have H1 : Hid _ := hx1
          have H2 : Hid _ := hx2
          clear hx1 hx2
          replace hp := hp.below (Below.next (by repeat (first | exact Below.refl _ _ | apply Below.draws | apply below_lit)) b)
          replace hq := hq.below (Below.next (by repeat (first | exact Below.refl _ _ | apply Below.draws | apply below_lit)) b)
          replace F := F.below (Below.next (by repeat (first | exact Below.refl _ _ | apply Below.draws | apply below_lit)) b)
          replace B := Below.next B (Below.next (by repeat (first | exact Below.refl _ _ | apply Below.draws | apply below_lit)) b)
          clear b
          go_wp2_with fail
          refine (pmul_any (F.below (by repeat (first | exact Below.refl _ _ | apply Below.draws | apply below_lit))) (hp.below (by repeat (first | exact Below.refl _ _ | apply Below.draws | apply below_lit))) (hq.below (by repeat (first | exact Below.refl _ _ | apply Below.draws | apply below_lit))) (Nat.zero_le _) (by omega)).mono ?_
          rintro e u3 ⟨vm, rfl, rm, b⟩
          replace hp := hp.below (Below.next (by repeat (first | exact Below.refl _ _ | apply Below.draws | apply below_lit)) b)
          replace hq := hq.below (Below.next (by repeat (first | exact Below.refl _ _ | apply Below.draws | apply below_lit)) b)
          replace F := F.below (Below.next (by repeat (first | exact Below.refl _ _ | apply Below.draws | apply below_lit)) b)
          replace rl := rl.below (Below.next (by repeat (first | exact Below.refl _ _ | apply Below.draws | apply below_lit)) b)
          replace B := Below.next B (Below.next (by repeat (first | exact Below.refl _ _ | apply Below.draws | apply below_lit)) b)
          clear b
          obtain ⟨am, cm, em⟩ := rm.form
          subst em
          go_wp2_with fail
          refine (pmul_any (F.below (by repeat (first | exact Below.refl _ _ | apply Below.draws | apply below_lit))) (hq.below (by repeat (first | exact Below.refl _ _ | apply Below.draws | apply below_lit))) (rl.below (by repeat (first | exact Below.refl _ _ | apply Below.draws | apply below_lit))) (by omega) (by omega)).mono ?_
          rintro e u4 ⟨v2, rfl, r2, b⟩
          replace hp := hp.below (Below.next (by repeat (first | exact Below.refl _ _ | apply Below.draws | apply below_lit)) b)
          replace hq := hq.below (Below.next (by repeat (first | exact Below.refl _ _ | apply Below.draws | apply below_lit)) b)
          replace F := F.below (Below.next (by repeat (first | exact Below.refl _ _ | apply Below.draws | apply below_lit)) b)
          replace rl := rl.below (Below.next (by repeat (first | exact Below.refl _ _ | apply Below.draws | apply below_lit)) b)
          replace rm := rm.below (Below.next (by repeat (first | exact Below.refl _ _ | apply Below.draws | apply below_lit)) b)
          replace B := Below.next B (Below.next (by repeat (first | exact Below.refl _ _ | apply Below.draws | apply below_lit)) b)
          clear b
          rw [H1.out] at r2
          go_wp2_with fail
          refine (same_b (rm.below (by repeat (first | exact Below.refl _ _ | apply Below.draws | apply below_lit))) (r2.below (by repeat (first | exact Below.refl _ _ | apply Below.draws | apply below_lit)))).mono ?_
          rintro e u5 ⟨rfl, b⟩
          replace hp := hp.below (Below.next (by repeat (first | exact Below.refl _ _ | apply Below.draws | apply below_lit)) b)
          replace hq := hq.below (Below.next (by repeat (first | exact Below.refl _ _ | apply Below.draws | apply below_lit)) b)
          replace F := F.below (Below.next (by repeat (first | exact Below.refl _ _ | apply Below.draws | apply below_lit)) b)
          replace rl := rl.below (Below.next (by repeat (first | exact Below.refl _ _ | apply Below.draws | apply below_lit)) b)
          replace rm := rm.below (Below.next (by repeat (first | exact Below.refl _ _ | apply Below.draws | apply below_lit)) b)
          replace r2 := r2.below (Below.next (by repeat (first | exact Below.refl _ _ | apply Below.draws | apply below_lit)) b)
          replace B := Below.next B (Below.next (by repeat (first | exact Below.refl _ _ | apply Below.draws | apply below_lit)) b)
          clear b
          go_wp2_with fail
          refine (padd_any (hp.below (by repeat (first | exact Below.refl _ _ | apply Below.draws | apply below_lit))) (hq.below (by repeat (first | exact Below.refl _ _ | apply Below.draws | apply below_lit))) (Nat.zero_le _) (by omega)).mono ?_
          rintro e u6 ⟨v3, rfl, r3, b⟩
          replace hp := hp.below (Below.next (by repeat (first | exact Below.refl _ _ | apply Below.draws | apply below_lit)) b)
          replace hq := hq.below (Below.next (by repeat (first | exact Below.refl _ _ | apply Below.draws | apply below_lit)) b)
          replace F := F.below (Below.next (by repeat (first | exact Below.refl _ _ | apply Below.draws | apply below_lit)) b)
          replace rl := rl.below (Below.next (by repeat (first | exact Below.refl _ _ | apply Below.draws | apply below_lit)) b)
          replace rm := rm.below (Below.next (by repeat (first | exact Below.refl _ _ | apply Below.draws | apply below_lit)) b)
          replace r2 := r2.below (Below.next (by repeat (first | exact Below.refl _ _ | apply Below.draws | apply below_lit)) b)
          replace B := Below.next B (Below.next (by repeat (first | exact Below.refl _ _ | apply Below.draws | apply below_lit)) b)
          clear b
          go_wp2_with fail
          refine (padd_any (hq.below (by repeat (first | exact Below.refl _ _ | apply Below.draws | apply below_lit))) (rl.below (by repeat (first | exact Below.refl _ _ | apply Below.draws | apply below_lit))) (by omega) (by omega)).mono ?_
          rintro e u7 ⟨v4, rfl, r4, b⟩
          replace hp := hp.below (Below.next (by repeat (first | exact Below.refl _ _ | apply Below.draws | apply below_lit)) b)
          replace hq := hq.below (Below.next (by repeat (first | exact Below.refl _ _ | apply Below.draws | apply below_lit)) b)
          replace F := F.below (Below.next (by repeat (first | exact Below.refl _ _ | apply Below.draws | apply below_lit)) b)
          replace rl := rl.below (Below.next (by repeat (first | exact Below.refl _ _ | apply Below.draws | apply below_lit)) b)
          replace rm := rm.below (Below.next (by repeat (first | exact Below.refl _ _ | apply Below.draws | apply below_lit)) b)
          replace r2 := r2.below (Below.next (by repeat (first | exact Below.refl _ _ | apply Below.draws | apply below_lit)) b)
          replace r3 := r3.below (Below.next (by repeat (first | exact Below.refl _ _ | apply Below.draws | apply below_lit)) b)
          replace B := Below.next B (Below.next (by repeat (first | exact Below.refl _ _ | apply Below.draws | apply below_lit)) b)
          clear b
          rw [H2.out] at r4
          go_wp2_with fail
          refine (same_b (r3.below (by repeat (first | exact Below.refl _ _ | apply Below.draws | apply below_lit))) (r4.below (by repeat (first | exact Below.refl _ _ | apply Below.draws | apply below_lit)))).mono ?_
          rintro e u8 ⟨rfl, b⟩
          replace hp := hp.below (Below.next (by repeat (first | exact Below.refl _ _ | apply Below.draws | apply below_lit)) b)
          replace hq := hq.below (Below.next (by repeat (first | exact Below.refl _ _ | apply Below.draws | apply below_lit)) b)
          replace F := F.below (Below.next (by repeat (first | exact Below.refl _ _ | apply Below.draws | apply below_lit)) b)
          replace rl := rl.below (Below.next (by repeat (first | exact Below.refl _ _ | apply Below.draws | apply below_lit)) b)
          replace rm := rm.below (Below.next (by repeat (first | exact Below.refl _ _ | apply Below.draws | apply below_lit)) b)
          replace r2 := r2.below (Below.next (by repeat (first | exact Below.refl _ _ | apply Below.draws | apply below_lit)) b)
          replace r3 := r3.below (Below.next (by repeat (first | exact Below.refl _ _ | apply Below.draws | apply below_lit)) b)
          replace r4 := r4.below (Below.next (by repeat (first | exact Below.refl _ _ | apply Below.draws | apply below_lit)) b)
          replace B := Below.next B (Below.next (by repeat (first | exact Below.refl _ _ | apply Below.draws | apply below_lit)) b)
          clear b
          go_wp2_with fail
          refine (pnorm_any (hp.below (by repeat (first | exact Below.refl _ _ | apply Below.draws | apply below_lit))) (Nat.zero_le _)).mono ?_
          rintro e u9 ⟨v5, rfl, r5, b⟩
          replace hp := hp.below (Below.next (by repeat (first | exact Below.refl _ _ | apply Below.draws | apply below_lit)) b)
          replace hq := hq.below (Below.next (by repeat (first | exact Below.refl _ _ | apply Below.draws | apply below_lit)) b)
          replace F := F.below (Below.next (by repeat (first | exact Below.refl _ _ | apply Below.draws | apply below_lit)) b)
          replace rl := rl.below (Below.next (by repeat (first | exact Below.refl _ _ | apply Below.draws | apply below_lit)) b)
          replace rm := rm.below (Below.next (by repeat (first | exact Below.refl _ _ | apply Below.draws | apply below_lit)) b)
          replace r2 := r2.below (Below.next (by repeat (first | exact Below.refl _ _ | apply Below.draws | apply below_lit)) b)
          replace r3 := r3.below (Below.next (by repeat (first | exact Below.refl _ _ | apply Below.draws | apply below_lit)) b)
          replace r4 := r4.below (Below.next (by repeat (first | exact Below.refl _ _ | apply Below.draws | apply below_lit)) b)
          replace B := Below.next B (Below.next (by repeat (first | exact Below.refl _ _ | apply Below.draws | apply below_lit)) b)
          clear b
          obtain ⟨a5, c5, e5⟩ := r5.form
          subst e5
          go_wp2_with fail
          refine (pnorm_any (hq.below (by repeat (first | exact Below.refl _ _ | apply Below.draws | apply below_lit))) (by omega)).mono ?_
          rintro e u10 ⟨v6, rfl, r6, b⟩
          replace hp := hp.below (Below.next (by repeat (first | exact Below.refl _ _ | apply Below.draws | apply below_lit)) b)
          replace hq := hq.below (Below.next (by repeat (first | exact Below.refl _ _ | apply Below.draws | apply below_lit)) b)
          replace F := F.below (Below.next (by repeat (first | exact Below.refl _ _ | apply Below.draws | apply below_lit)) b)
          replace rl := rl.below (Below.next (by repeat (first | exact Below.refl _ _ | apply Below.draws | apply below_lit)) b)
          replace rm := rm.below (Below.next (by repeat (first | exact Below.refl _ _ | apply Below.draws | apply below_lit)) b)
          replace r2 := r2.below (Below.next (by repeat (first | exact Below.refl _ _ | apply Below.draws | apply below_lit)) b)
          replace r3 := r3.below (Below.next (by repeat (first | exact Below.refl _ _ | apply Below.draws | apply below_lit)) b)
          replace r4 := r4.below (Below.next (by repeat (first | exact Below.refl _ _ | apply Below.draws | apply below_lit)) b)
          replace r5 := r5.below (Below.next (by repeat (first | exact Below.refl _ _ | apply Below.draws | apply below_lit)) b)
          replace B := Below.next B (Below.next (by repeat (first | exact Below.refl _ _ | apply Below.draws | apply below_lit)) b)
          clear b
          obtain ⟨a6, c6, e6⟩ := r6.form
          subst e6
          rcases hdeg with ⟨d1, d2⟩ | ⟨d1, d2, d3⟩ | ⟨d1, d2, d3⟩
          all_goals go_wp2
          all_goals go_ret
          all_goals exact ⟨rfl, B⟩
      · go_enter Try.func8, Try.ntmps8
        have B : Below w.heap.size w w := Below.refl _ _
        go_wp2_with fail
        refine (awake2_any _).mono ?_
        rintro e u1 ⟨rfl, b⟩
        replace hp := hp.below (Below.next (by repeat (first | exact Below.refl _ _ | apply Below.draws | apply below_lit)) b)
        replace hq := hq.below (Below.next (by repeat (first | exact Below.refl _ _ | apply Below.draws | apply below_lit)) b)
        replace B := Below.next B (Below.next (by repeat (first | exact Below.refl _ _ | apply Below.draws | apply below_lit)) b)
        clear b
        go_wp2_with fail
        refine (new_any _).mono ?_
        rintro e u2 ⟨rfl, F, hO⟩
        have b := hO.below
        clear hO
        replace hp := hp.below (Below.next (by repeat (first | exact Below.refl _ _ | apply Below.draws | apply below_lit)) b)
        replace hq := hq.below (Below.next (by repeat (first | exact Below.refl _ _ | apply Below.draws | apply below_lit)) b)
        replace B := Below.next B (Below.next (by repeat (first | exact Below.refl _ _ | apply Below.draws | apply below_lit)) b)
        clear b
        have hown0 := World.ownsRow_lit (base := World.heap u2 |>.size) (e := 5) (size := 1) u2 #[] 0 (Nat.le_refl _) (Nat.zero_le _) rfl
        rcases hp with ⟨_, _, h, _⟩ | ⟨bp, offp, capp, _, e2, hc1, hc2, hpb, hpc⟩
        · exact absurd h hp0
        have ho := e2
        simp only [Value.slice.injEq] at ho
        obtain ⟨ho1, _, ho2⟩ := ho
        subst ho1 ho2
        clear e2
        have hp : Rd u2 (.slice (some ⟨bp, offp, none⟩) p.length cap0) p := Or.inr ⟨bp, offp, cap0, hp0, rfl, hc1, hc2, hpb, hpc⟩
        have hpos : 0 < p.length := List.length_pos_iff.2 hp0
        have hnews := news_of (k := p.length) (cells_alloc (.cells #[] 5) hpb hpc)
        have hlen : ((p.take p.length).map vb).length = p.length * 1 := by simp
        clear hpc
        go_wp2_with (first | (at_builtin; refine wpList_append_own _ rfl (.tmp 50) (.tmp 51) 23 rfl (World.heap u2 |>.size) 5 i0 (.int .u8 0) 1 1 Try.underlying23 hi hz0 hz1 hz2 rfl (by decide) (.slice (some ⟨World.heap u2 |>.size, 0, none⟩) 0 0) 0 [] rfl hown0 ⟨bp, offp, none⟩ p.length cap0 ((p.take p.length).map vb) rfl hlen hnews (vb_one _) (by unfold maxLen; omega) (by omega) (by simp) ?_; intro v1 wz hown1 hgrow1 _; have hown2 : World.ownsRow wz (World.heap u2 |>.size) 5 1 v1 p.length (p.map vb) := (by simpa using hown1); obtain ⟨g, C, e1, R1⟩ := RowF.of hown2 hpos; subst e1; have sb : Below (World.heap u2 |>.size) u2 wz := (((Below.refl _ _).alloc (Nat.le_refl _) _).grown hgrow1 (by simp) (fun g hg => by simp [Value.ownBlock] at hg; omega)); have ss := sb.size; have hgl := R1.lt; clear hnews hlen hown1 hown0 hgrow1) | (at_builtin; refine wpList_append_zeros _ rfl (.tmp 52) (.tmp 54) 23 3 rfl (World.heap u2 |>.size) 5 i0 Try.underlying23 Try.underlying3 hi hz0 hz1 hz2 g p.length C (p.map vb) rfl hown2 k _ rfl (by omega) (by omega) (by omega) (by exact ss) ?_; intro vl wl hownl hgrowl))
        have rl : Rd wl vl (p ++ List.replicate k 0) := Rd.owned (base := World.heap u2 |>.size) (e := 5) (by rw [vb_zeros, List.length_append, List.length_replicate]; exact hownl)
        have b : Below (World.heap u2 |>.size) u2 wl := sb.grown hgrowl ss (fun g' hg => by cases hg; exact hgl.1)
        clear hownl hgrowl hown2 sb ss hgl R1
        have hll : (p ++ List.replicate k (0 : UInt8)).length ≤ 100 := by rw [List.length_append, List.length_replicate]; omega
        have hx1 : mulP q (p ++ List.replicate k 0) = mulP p q := by rw [mulP_comm]; exact mulP_congr (co_zeros _ _) rfl
        have hx2 : addP q (p ++ List.replicate k 0) = addP p q := by rw [addP_comm]; exact addP_congr (co_zeros _ _) rfl
        have H1 : Hid _ := hx1
        have H2 : Hid _ := hx2
        clear hx1 hx2
        replace hp := hp.below (Below.next (by repeat (first | exact Below.refl _ _ | apply Below.draws | apply below_lit)) b)
        replace hq := hq.below (Below.next (by repeat (first | exact Below.refl _ _ | apply Below.draws | apply below_lit)) b)
        replace F := F.below (Below.next (by repeat (first | exact Below.refl _ _ | apply Below.draws | apply below_lit)) b)
        replace B := Below.next B (Below.next (by repeat (first | exact Below.refl _ _ | apply Below.draws | apply below_lit)) b)
        clear b
        go_wp2_with fail
        refine (pmul_any (F.below (by repeat (first | exact Below.refl _ _ | apply Below.draws | apply below_lit))) (hp.below (by repeat (first | exact Below.refl _ _ | apply Below.draws | apply below_lit))) (hq.below (by repeat (first | exact Below.refl _ _ | apply Below.draws | apply below_lit))) (by omega) (by omega)).mono ?_
        rintro e u3 ⟨vm, rfl, rm, b⟩
        replace hp := hp.below (Below.next (by repeat (first | exact Below.refl _ _ | apply Below.draws | apply below_lit)) b)
        replace hq := hq.below (Below.next (by repeat (first | exact Below.refl _ _ | apply Below.draws | apply below_lit)) b)
        replace F := F.below (Below.next (by repeat (first | exact Below.refl _ _ | apply Below.draws | apply below_lit)) b)
        replace rl := rl.below (Below.next (by repeat (first | exact Below.refl _ _ | apply Below.draws | apply below_lit)) b)
        replace B := Below.next B (Below.next (by repeat (first | exact Below.refl _ _ | apply Below.draws | apply below_lit)) b)
        clear b
        obtain ⟨am, cm, em⟩ := rm.form
        subst em
        go_wp2_with fail
        refine (pmul_any (F.below (by repeat (first | exact Below.refl _ _ | apply Below.draws | apply below_lit))) (hq.below (by repeat (first | exact Below.refl _ _ | apply Below.draws | apply below_lit))) (rl.below (by repeat (first | exact Below.refl _ _ | apply Below.draws | apply below_lit))) (by omega) (by omega)).mono ?_
        rintro e u4 ⟨v2, rfl, r2, b⟩
        replace hp := hp.below (Below.next (by repeat (first | exact Below.refl _ _ | apply Below.draws | apply below_lit)) b)
        replace hq := hq.below (Below.next (by repeat (first | exact Below.refl _ _ | apply Below.draws | apply below_lit)) b)
        replace F := F.below (Below.next (by repeat (first | exact Below.refl _ _ | apply Below.draws | apply below_lit)) b)
        replace rl := rl.below (Below.next (by repeat (first | exact Below.refl _ _ | apply Below.draws | apply below_lit)) b)
        replace rm := rm.below (Below.next (by repeat (first | exact Below.refl _ _ | apply Below.draws | apply below_lit)) b)
        replace B := Below.next B (Below.next (by repeat (first | exact Below.refl _ _ | apply Below.draws | apply below_lit)) b)
        clear b
        rw [H1.out] at r2
        go_wp2_with fail
        refine (same_b (rm.below (by repeat (first | exact Below.refl _ _ | apply Below.draws | apply below_lit))) (r2.below (by repeat (first | exact Below.refl _ _ | apply Below.draws | apply below_lit)))).mono ?_
        rintro e u5 ⟨rfl, b⟩
        replace hp := hp.below (Below.next (by repeat (first | exact Below.refl _ _ | apply Below.draws | apply below_lit)) b)
        replace hq := hq.below (Below.next (by repeat (first | exact Below.refl _ _ | apply Below.draws | apply below_lit)) b)
        replace F := F.below (Below.next (by repeat (first | exact Below.refl _ _ | apply Below.draws | apply below_lit)) b)
        replace rl := rl.below (Below.next (by repeat (first | exact Below.refl _ _ | apply Below.draws | apply below_lit)) b)
        replace rm := rm.below (Below.next (by repeat (first | exact Below.refl _ _ | apply Below.draws | apply below_lit)) b)
        replace r2 := r2.below (Below.next (by repeat (first | exact Below.refl _ _ | apply Below.draws | apply below_lit)) b)
        replace B := Below.next B (Below.next (by repeat (first | exact Below.refl _ _ | apply Below.draws | apply below_lit)) b)
        clear b
        go_wp2_with fail
        refine (padd_any (hp.below (by repeat (first | exact Below.refl _ _ | apply Below.draws | apply below_lit))) (hq.below (by repeat (first | exact Below.refl _ _ | apply Below.draws | apply below_lit))) (by omega) (by omega)).mono ?_
        rintro e u6 ⟨v3, rfl, r3, b⟩
        replace hp := hp.below (Below.next (by repeat (first | exact Below.refl _ _ | apply Below.draws | apply below_lit)) b)
        replace hq := hq.below (Below.next (by repeat (first | exact Below.refl _ _ | apply Below.draws | apply below_lit)) b)
        replace F := F.below (Below.next (by repeat (first | exact Below.refl _ _ | apply Below.draws | apply below_lit)) b)
        replace rl := rl.below (Below.next (by repeat (first | exact Below.refl _ _ | apply Below.draws | apply below_lit)) b)
        replace rm := rm.below (Below.next (by repeat (first | exact Below.refl _ _ | apply Below.draws | apply below_lit)) b)
        replace r2 := r2.below (Below.next (by repeat (first | exact Below.refl _ _ | apply Below.draws | apply below_lit)) b)
        replace B := Below.next B (Below.next (by repeat (first | exact Below.refl _ _ | apply Below.draws | apply below_lit)) b)
        clear b
        go_wp2_with fail
        refine (padd_any (hq.below (by repeat (first | exact Below.refl _ _ | apply Below.draws | apply below_lit))) (rl.below (by repeat (first | exact Below.refl _ _ | apply Below.draws | apply below_lit))) (by omega) (by omega)).mono ?_
        rintro e u7 ⟨v4, rfl, r4, b⟩
        replace hp := hp.below (Below.next (by repeat (first | exact Below.refl _ _ | apply Below.draws | apply below_lit)) b)
        replace hq := hq.below (Below.next (by repeat (first | exact Below.refl _ _ | apply Below.draws | apply below_lit)) b)
        replace F := F.below (Below.next (by repeat (first | exact Below.refl _ _ | apply Below.draws | apply below_lit)) b)
        replace rl := rl.below (Below.next (by repeat (first | exact Below.refl _ _ | apply Below.draws | apply below_lit)) b)
        replace rm := rm.below (Below.next (by repeat (first | exact Below.refl _ _ | apply Below.draws | apply below_lit)) b)
        replace r2 := r2.below (Below.next (by repeat (first | exact Below.refl _ _ | apply Below.draws | apply below_lit)) b)
        replace r3 := r3.below (Below.next (by repeat (first | exact Below.refl _ _ | apply Below.draws | apply below_lit)) b)
        replace B := Below.next B (Below.next (by repeat (first | exact Below.refl _ _ | apply Below.draws | apply below_lit)) b)
        clear b
        rw [H2.out] at r4
        go_wp2_with fail
        refine (same_b (r3.below (by repeat (first | exact Below.refl _ _ | apply Below.draws | apply below_lit))) (r4.below (by repeat (first | exact Below.refl _ _ | apply Below.draws | apply below_lit)))).mono ?_
        rintro e u8 ⟨rfl, b⟩
        replace hp := hp.below (Below.next (by repeat (first | exact Below.refl _ _ | apply Below.draws | apply below_lit)) b)
        replace hq := hq.below (Below.next (by repeat (first | exact Below.refl _ _ | apply Below.draws | apply below_lit)) b)
        replace F := F.below (Below.next (by repeat (first | exact Below.refl _ _ | apply Below.draws | apply below_lit)) b)
        replace rl := rl.below (Below.next (by repeat (first | exact Below.refl _ _ | apply Below.draws | apply below_lit)) b)
        replace rm := rm.below (Below.next (by repeat (first | exact Below.refl _ _ | apply Below.draws | apply below_lit)) b)
        replace r2 := r2.below (Below.next (by repeat (first | exact Below.refl _ _ | apply Below.draws | apply below_lit)) b)
        replace r3 := r3.below (Below.next (by repeat (first | exact Below.refl _ _ | apply Below.draws | apply below_lit)) b)
        replace r4 := r4.below (Below.next (by repeat (first | exact Below.refl _ _ | apply Below.draws | apply below_lit)) b)
        replace B := Below.next B (Below.next (by repeat (first | exact Below.refl _ _ | apply Below.draws | apply below_lit)) b)
        clear b
        go_wp2_with fail
        refine (pnorm_any (hp.below (by repeat (first | exact Below.refl _ _ | apply Below.draws | apply below_lit))) (by omega)).mono ?_
        rintro e u9 ⟨v5, rfl, r5, b⟩
        replace hp := hp.below (Below.next (by repeat (first | exact Below.refl _ _ | apply Below.draws | apply below_lit)) b)
        replace hq := hq.below (Below.next (by repeat (first | exact Below.refl _ _ | apply Below.draws | apply below_lit)) b)
        replace F := F.below (Below.next (by repeat (first | exact Below.refl _ _ | apply Below.draws | apply below_lit)) b)
        replace rl := rl.below (Below.next (by repeat (first | exact Below.refl _ _ | apply Below.draws | apply below_lit)) b)
        replace rm := rm.below (Below.next (by repeat (first | exact Below.refl _ _ | apply Below.draws | apply below_lit)) b)
        replace r2 := r2.below (Below.next (by repeat (first | exact Below.refl _ _ | apply Below.draws | apply below_lit)) b)
        replace r3 := r3.below (Below.next (by repeat (first | exact Below.refl _ _ | apply Below.draws | apply below_lit)) b)
        replace r4 := r4.below (Below.next (by repeat (first | exact Below.refl _ _ | apply Below.draws | apply below_lit)) b)
        replace B := Below.next B (Below.next (by repeat (first | exact Below.refl _ _ | apply Below.draws | apply below_lit)) b)
        clear b
        obtain ⟨a5, c5, e5⟩ := r5.form
        subst e5
        go_wp2_with fail
        refine (pnorm_any (hq.below (by repeat (first | exact Below.refl _ _ | apply Below.draws | apply below_lit))) (by omega)).mono ?_
        rintro e u10 ⟨v6, rfl, r6, b⟩
        replace hp := hp.below (Below.next (by repeat (first | exact Below.refl _ _ | apply Below.draws | apply below_lit)) b)
        replace hq := hq.below (Below.next (by repeat (first | exact Below.refl _ _ | apply Below.draws | apply below_lit)) b)
        replace F := F.below (Below.next (by repeat (first | exact Below.refl _ _ | apply Below.draws | apply below_lit)) b)
        replace rl := rl.below (Below.next (by repeat (first | exact Below.refl _ _ | apply Below.draws | apply below_lit)) b)
        replace rm := rm.below (Below.next (by repeat (first | exact Below.refl _ _ | apply Below.draws | apply below_lit)) b)
        replace r2 := r2.below (Below.next (by repeat (first | exact Below.refl _ _ | apply Below.draws | apply below_lit)) b)
        replace r3 := r3.below (Below.next (by repeat (first | exact Below.refl _ _ | apply Below.draws | apply below_lit)) b)
        replace r4 := r4.below (Below.next (by repeat (first | exact Below.refl _ _ | apply Below.draws | apply below_lit)) b)
        replace r5 := r5.below (Below.next (by repeat (first | exact Below.refl _ _ | apply Below.draws | apply below_lit)) b)
        replace B := Below.next B (Below.next (by repeat (first | exact Below.refl _ _ | apply Below.draws | apply below_lit)) b)
        clear b
        obtain ⟨a6, c6, e6⟩ := r6.form
        subst e6
        rcases hdeg with ⟨d1, d2⟩ | ⟨d1, d2, d3⟩ | ⟨d1, d2, d3⟩
        all_goals go_wp2
        all_goals go_ret
        all_goals exact ⟨rfl, B⟩
    · obtain ⟨m, rfl⟩ := Int.eq_ofNat_of_zero_le (by omega : 0 ≤ a2)
      obtain ⟨k, hk⟩ : ∃ k : Nat, (m : Int) % 10 = (k : Int) := ⟨m % 10, by omega⟩
      by_cases hp0 : p = []
      · subst hp0
        rcases a0 with _ | x
        all_goals
          go_enter Try.func8, Try.ntmps8
          have B : Below w.heap.size w w := Below.refl _ _
          go_wp2_with fail
          refine (awake2_any _).mono ?_
          rintro e u1 ⟨rfl, b⟩
          replace hp := hp.below (Below.next (by repeat (first | exact Below.refl _ _ | apply Below.draws | apply below_lit)) b)
          replace hq := hq.below (Below.next (by repeat (first | exact Below.refl _ _ | apply Below.draws | apply below_lit)) b)
          replace B := Below.next B (Below.next (by repeat (first | exact Below.refl _ _ | apply Below.draws | apply below_lit)) b)
          clear b
          go_wp2_with fail
          refine (new_any _).mono ?_
          rintro e u2 ⟨rfl, F, hO⟩
          have b := hO.below
          clear hO
          replace hp := hp.below (Below.next (by repeat (first | exact Below.refl _ _ | apply Below.draws | apply below_lit)) b)
          replace hq := hq.below (Below.next (by repeat (first | exact Below.refl _ _ | apply Below.draws | apply below_lit)) b)
          replace B := Below.next B (Below.next (by repeat (first | exact Below.refl _ _ | apply Below.draws | apply below_lit)) b)
          clear b
          have hown0 := World.ownsRow_lit (base := World.heap u2 |>.size) (e := 5) (size := 1) u2 #[] 0 (Nat.le_refl _) (Nat.zero_le _) rfl
          go_wp2_with (at_builtin; refine wpList_append_zeros _ rfl (.tmp 52) (.tmp 54) 23 3 rfl (World.heap u2 |>.size) 5 i0 Try.underlying23 Try.underlying3 hi hz0 hz1 hz2 _ 0 0 [] rfl hown0 k _ rfl (by omega) (by omega) (by omega) (by simp) ?_; intro vl wl hownl hgrowl)
          have rl : Rd wl vl ([] ++ List.replicate k 0) := Rd.owned (base := World.heap u2 |>.size) (e := 5) (by rw [vb_zeros]; simpa using hownl)
          have b : Below (World.heap u2 |>.size) u2 wl := ((Below.refl _ _).alloc (Nat.le_refl _) _).grown hgrowl (by simp) (fun g hg => by simp at hg; omega)
          clear hownl hgrowl hown0
          have hll : ([] ++ List.replicate k (0 : UInt8)).length ≤ 100 := by rw [List.length_append, List.length_replicate]; simp; omega
          have hx1 : mulP q ([] ++ List.replicate k 0) = mulP [] q := by rw [mulP_comm]; exact mulP_congr (co_zeros _ _) rfl
          have hx2 : addP q ([] ++ List.replicate k 0) = addP [] q := by rw [addP_comm]; exact addP_congr (co_zeros _ _) rfl
          have H1 : Hid _ := hx1
          have H2 : Hid _ := hx2
          clear hx1 hx2
          replace hp := hp.below (Below.next (by repeat (first | exact Below.refl _ _ | apply Below.draws | apply below_lit)) b)
          replace hq := hq.below (Below.next (by repeat (first | exact Below.refl _ _ | apply Below.draws | apply below_lit)) b)
          replace F := F.below (Below.next (by repeat (first | exact Below.refl _ _ | apply Below.draws | apply below_lit)) b)
          replace B := Below.next B (Below.next (by repeat (first | exact Below.refl _ _ | apply Below.draws | apply below_lit)) b)
          clear b
          go_wp2_with fail
          refine (pmul_any (F.below (by repeat (first | exact Below.refl _ _ | apply Below.draws | apply below_lit))) (hp.below (by repeat (first | exact Below.refl _ _ | apply Below.draws | apply below_lit))) (hq.below (by repeat (first | exact Below.refl _ _ | apply Below.draws | apply below_lit))) (Nat.zero_le _) (by omega)).mono ?_
          rintro e u3 ⟨vm, rfl, rm, b⟩
          replace hp := hp.below (Below.next (by repeat (first | exact Below.refl _ _ | apply Below.draws | apply below_lit)) b)
          replace hq := hq.below (Below.next (by repeat (first | exact Below.refl _ _ | apply Below.draws | apply below_lit)) b)
          replace F := F.below (Below.next (by repeat (first | exact Below.refl _ _ | apply Below.draws | apply below_lit)) b)
          replace rl := rl.below (Below.next (by repeat (first | exact Below.refl _ _ | apply Below.draws | apply below_lit)) b)
          replace B := Below.next B (Below.next (by repeat (first | exact Below.refl _ _ | apply Below.draws | apply below_lit)) b)
          clear b
          obtain ⟨am, cm, em⟩ := rm.form
          subst em
          go_wp2_with fail
          refine (pmul_any (F.below (by repeat (first | exact Below.refl _ _ | apply Below.draws | apply below_lit))) (hq.below (by repeat (first | exact Below.refl _ _ | apply Below.draws | apply below_lit))) (rl.below (by repeat (first | exact Below.refl _ _ | apply Below.draws | apply below_lit))) (by omega) (by omega)).mono ?_
          rintro e u4 ⟨v2, rfl, r2, b⟩
          replace hp := hp.below (Below.next (by repeat (first | exact Below.refl _ _ | apply Below.draws | apply below_lit)) b)
          replace hq := hq.below (Below.next (by repeat (first | exact Below.refl _ _ | apply Below.draws | apply below_lit)) b)
          replace F := F.below (Below.next (by repeat (first | exact Below.refl _ _ | apply Below.draws | apply below_lit)) b)
          replace rl := rl.below (Below.next (by repeat (first | exact Below.refl _ _ | apply Below.draws | apply below_lit)) b)
          replace rm := rm.below (Below.next (by repeat (first | exact Below.refl _ _ | apply Below.draws | apply below_lit)) b)
          replace B := Below.next B (Below.next (by repeat (first | exact Below.refl _ _ | apply Below.draws | apply below_lit)) b)
          clear b
          rw [H1.out] at r2
          go_wp2_with fail
          refine (same_b (rm.below (by repeat (first | exact Below.refl _ _ | apply Below.draws | apply below_lit))) (r2.below (by repeat (first | exact Below.refl _ _ | apply Below.draws | apply below_lit)))).mono ?_
          rintro e u5 ⟨rfl, b⟩
          replace hp := hp.below (Below.next (by repeat (first | exact Below.refl _ _ | apply Below.draws | apply below_lit)) b)
          replace hq := hq.below (Below.next (by repeat (first | exact Below.refl _ _ | apply Below.draws | apply below_lit)) b)
          replace F := F.below (Below.next (by repeat (first | exact Below.refl _ _ | apply Below.draws | apply below_lit)) b)
          replace rl := rl.below (Below.next (by repeat (first | exact Below.refl _ _ | apply Below.draws | apply below_lit)) b)
          replace rm := rm.below (Below.next (by repeat (first | exact Below.refl _ _ | apply Below.draws | apply below_lit)) b)
          replace r2 := r2.below (Below.next (by repeat (first | exact Below.refl _ _ | apply Below.draws | apply below_lit)) b)
          replace B := Below.next B (Below.next (by repeat (first | exact Below.refl _ _ | apply Below.draws | apply below_lit)) b)
          clear b
          go_wp2_with fail
          refine (padd_any (hp.below (by repeat (first | exact Below.refl _ _ | apply Below.draws | apply below_lit))) (hq.below (by repeat (first | exact Below.refl _ _ | apply Below.draws | apply below_lit))) (Nat.zero_le _) (by omega)).mono ?_
          rintro e u6 ⟨v3, rfl, r3, b⟩
          replace hp := hp.below (Below.next (by repeat (first | exact Below.refl _ _ | apply Below.draws | apply below_lit)) b)
          replace hq := hq.below (Below.next (by repeat (first | exact Below.refl _ _ | apply Below.draws | apply below_lit)) b)
          replace F := F.below (Below.next (by repeat (first | exact Below.refl _ _ | apply Below.draws | apply below_lit)) b)
          replace rl := rl.below (Below.next (by repeat (first | exact Below.refl _ _ | apply Below.draws | apply below_lit)) b)
          replace rm := rm.below (Below.next (by repeat (first | exact Below.refl _ _ | apply Below.draws | apply below_lit)) b)
          replace r2 := r2.below (Below.next (by repeat (first | exact Below.refl _ _ | apply Below.draws | apply below_lit)) b)
          replace B := Below.next B (Below.next (by repeat (first | exact Below.refl _ _ | apply Below.draws | apply below_lit)) b)
          clear b
          go_wp2_with fail
          refine (padd_any (hq.below (by repeat (first | exact Below.refl _ _ | apply Below.draws | apply below_lit))) (rl.below (by repeat (first | exact Below.refl _ _ | apply Below.draws | apply below_lit))) (by omega) (by omega)).mono ?_
          rintro e u7 ⟨v4, rfl, r4, b⟩
          replace hp := hp.below (Below.next (by repeat (first | exact Below.refl _ _ | apply Below.draws | apply below_lit)) b)
          replace hq := hq.below (Below.next (by repeat (first | exact Below.refl _ _ | apply Below.draws | apply below_lit)) b)
          replace F := F.below (Below.next (by repeat (first | exact Below.refl _ _ | apply Below.draws | apply below_lit)) b)
          replace rl := rl.below (Below.next (by repeat (first | exact Below.refl _ _ | apply Below.draws | apply below_lit)) b)
          replace rm := rm.below (Below.next (by repeat (first | exact Below.refl _ _ | apply Below.draws | apply below_lit)) b)
          replace r2 := r2.below (Below.next (by repeat (first | exact Below.refl _ _ | apply Below.draws | apply below_lit)) b)
          replace r3 := r3.below (Below.next (by repeat (first | exact Below.refl _ _ | apply Below.draws | apply below_lit)) b)
          replace B := Below.next B (Below.next (by repeat (first | exact Below.refl _ _ | apply Below.draws | apply below_lit)) b)
          clear b
          rw [H2.out] at r4
          go_wp2_with fail
          refine (same_b (r3.below (by repeat (first | exact Below.refl _ _ | apply Below.draws | apply below_lit))) (r4.below (by repeat (first | exact Below.refl _ _ | apply Below.draws | apply below_lit)))).mono ?_
          rintro e u8 ⟨rfl, b⟩
          replace hp := hp.below (Below.next (by repeat (first | exact Below.refl _ _ | apply Below.draws | apply below_lit)) b)
          replace hq := hq.below (Below.next (by repeat (first | exact Below.refl _ _ | apply Below.draws | apply below_lit)) b)
          replace F := F.below (Below.next (by repeat (first | exact Below.refl _ _ | apply Below.draws | apply below_lit)) b)
          replace rl := rl.below (Below.next (by repeat (first | exact Below.refl _ _ | apply Below.draws | apply below_lit)) b)
          replace rm := rm.below (Below.next (by repeat (first | exact Below.refl _ _ | apply Below.draws | apply below_lit)) b)
          replace r2 := r2.below (Below.next (by repeat (first | exact Below.refl _ _ | apply Below.draws | apply below_lit)) b)
          replace r3 := r3.below (Below.next (by repeat (first | exact Below.refl _ _ | apply Below.draws | apply below_lit)) b)
          replace r4 := r4.below (Below.next (by repeat (first | exact Below.refl _ _ | apply Below.draws | apply below_lit)) b)
          replace B := Below.next B (Below.next (by repeat (first | exact Below.refl _ _ | apply Below.draws | apply below_lit)) b)
          clear b
          go_wp2_with fail
          refine (pnorm_any (hp.below (by repeat (first | exact Below.refl _ _ | apply Below.draws | apply below_lit))) (Nat.zero_le _)).mono ?_
          rintro e u9 ⟨v5, rfl, r5, b⟩
          replace hp := hp.below (Below.next (by repeat (first | exact Below.refl _ _ | apply Below.draws | apply below_lit)) b)
          replace hq := hq.below (Below.next (by repeat (first | exact Below.refl _ _ | apply Below.draws | apply below_lit)) b)
          replace F := F.below (Below.next (by repeat (first | exact Below.refl _ _ | apply Below.draws | apply below_lit)) b)
          replace rl := rl.below (Below.next (by repeat (first | exact Below.refl _ _ | apply Below.draws | apply below_lit)) b)
          replace rm := rm.below (Below.next (by repeat (first | exact Below.refl _ _ | apply Below.draws | apply below_lit)) b)
          replace r2 := r2.below (Below.next (by repeat (first | exact Below.refl _ _ | apply Below.draws | apply below_lit)) b)
          replace r3 := r3.below (Below.next (by repeat (first | exact Below.refl _ _ | apply Below.draws | apply below_lit)) b)
          replace r4 := r4.below (Below.next (by repeat (first | exact Below.refl _ _ | apply Below.draws | apply below_lit)) b)
          replace B := Below.next B (Below.next (by repeat (first | exact Below.refl _ _ | apply Below.draws | apply below_lit)) b)
          clear b
          obtain ⟨a5, c5, e5⟩ := r5.form
          subst e5
          go_wp2_with fail
          refine (pnorm_any (hq.below (by repeat (first | exact Below.refl _ _ | apply Below.draws | apply below_lit))) (by omega)).mono ?_
          rintro e u10 ⟨v6, rfl, r6, b⟩
          replace hp := hp.below (Below.next (by repeat (first | exact Below.refl _ _ | apply Below.draws | apply below_lit)) b)
          replace hq := hq.below (Below.next (by repeat (first | exact Below.refl _ _ | apply Below.draws | apply below_lit)) b)
          replace F := F.below (Below.next (by repeat (first | exact Below.refl _ _ | apply Below.draws | apply below_lit)) b)
          replace rl := rl.below (Below.next (by repeat (first | exact Below.refl _ _ | apply Below.draws | apply below_lit)) b)
          replace rm := rm.below (Below.next (by repeat (first | exact Below.refl _ _ | apply Below.draws | apply below_lit)) b)
          replace r2 := r2.below (Below.next (by repeat (first | exact Below.refl _ _ | apply Below.draws | apply below_lit)) b)
          replace r3 := r3.below (Below.next (by repeat (first | exact Below.refl _ _ | apply Below.draws | apply below_lit)) b)
          replace r4 := r4.below (Below.next (by repeat (first | exact Below.refl _ _ | apply Below.draws | apply below_lit)) b)
          replace r5 := r5.below (Below.next (by repeat (first | exact Below.refl _ _ | apply Below.draws | apply below_lit)) b)
          replace B := Below.next B (Below.next (by repeat (first | exact Below.refl _ _ | apply Below.draws | apply below_lit)) b)
          clear b
          obtain ⟨a6, c6, e6⟩ := r6.form
          subst e6
          rcases hdeg with ⟨d1, d2⟩ | ⟨d1, d2, d3⟩ | ⟨d1, d2, d3⟩
          all_goals go_wp2
          all_goals go_ret
          all_goals exact ⟨rfl, B⟩
      · go_enter Try.func8, Try.ntmps8
        have B : Below w.heap.size w w := Below.refl _ _
        go_wp2_with fail
        refine (awake2_any _).mono ?_
        rintro e u1 ⟨rfl, b⟩
        replace hp := hp.below (Below.next (by repeat (first | exact Below.refl _ _ | apply Below.draws | apply below_lit)) b)
        replace hq := hq.below (Below.next (by repeat (first | exact Below.refl _ _ | apply Below.draws | apply below_lit)) b)
        replace B := Below.next B (Below.next (by repeat (first | exact Below.refl _ _ | apply Below.draws | apply below_lit)) b)
        clear b
        go_wp2_with fail
        refine (new_any _).mono ?_
        rintro e u2 ⟨rfl, F, hO⟩
        have b := hO.below
        clear hO
        replace hp := hp.below (Below.next (by repeat (first | exact Below.refl _ _ | apply Below.draws | apply below_lit)) b)
        replace hq := hq.below (Below.next (by repeat (first | exact Below.refl _ _ | apply Below.draws | apply below_lit)) b)
        replace B := Below.next B (Below.next (by repeat (first | exact Below.refl _ _ | apply Below.draws | apply below_lit)) b)
        clear b
        have hown0 := World.ownsRow_lit (base := World.heap u2 |>.size) (e := 5) (size := 1) u2 #[] 0 (Nat.le_refl _) (Nat.zero_le _) rfl
        rcases hp with ⟨_, _, h, _⟩ | ⟨bp, offp, capp, _, e2, hc1, hc2, hpb, hpc⟩
        · exact absurd h hp0
        have ho := e2
        simp only [Value.slice.injEq] at ho
        obtain ⟨ho1, _, ho2⟩ := ho
        subst ho1 ho2
        clear e2
        have hp : Rd u2 (.slice (some ⟨bp, offp, none⟩) p.length cap0) p := Or.inr ⟨bp, offp, cap0, hp0, rfl, hc1, hc2, hpb, hpc⟩
        have hpos : 0 < p.length := List.length_pos_iff.2 hp0
        have hnews := news_of (k := p.length) (cells_alloc (.cells #[] 5) hpb hpc)
        have hlen : ((p.take p.length).map vb).length = p.length * 1 := by simp
        clear hpc
        go_wp2_with (first | (at_builtin; refine wpList_append_own _ rfl (.tmp 50) (.tmp 51) 23 rfl (World.heap u2 |>.size) 5 i0 (.int .u8 0) 1 1 Try.underlying23 hi hz0 hz1 hz2 rfl (by decide) (.slice (some ⟨World.heap u2 |>.size, 0, none⟩) 0 0) 0 [] rfl hown0 ⟨bp, offp, none⟩ p.length cap0 ((p.take p.length).map vb) rfl hlen hnews (vb_one _) (by unfold maxLen; omega) (by omega) (by simp) ?_; intro v1 wz hown1 hgrow1 _; have hown2 : World.ownsRow wz (World.heap u2 |>.size) 5 1 v1 p.length (p.map vb) := (by simpa using hown1); obtain ⟨g, C, e1, R1⟩ := RowF.of hown2 hpos; subst e1; have sb : Below (World.heap u2 |>.size) u2 wz := (((Below.refl _ _).alloc (Nat.le_refl _) _).grown hgrow1 (by simp) (fun g hg => by simp [Value.ownBlock] at hg; omega)); have ss := sb.size; have hgl := R1.lt; clear hnews hlen hown1 hown0 hgrow1) | (at_builtin; refine wpList_append_zeros _ rfl (.tmp 52) (.tmp 54) 23 3 rfl (World.heap u2 |>.size) 5 i0 Try.underlying23 Try.underlying3 hi hz0 hz1 hz2 g p.length C (p.map vb) rfl hown2 k _ rfl (by omega) (by omega) (by omega) (by exact ss) ?_; intro vl wl hownl hgrowl))
        have rl : Rd wl vl (p ++ List.replicate k 0) := Rd.owned (base := World.heap u2 |>.size) (e := 5) (by rw [vb_zeros, List.length_append, List.length_replicate]; exact hownl)
        have b : Below (World.heap u2 |>.size) u2 wl := sb.grown hgrowl ss (fun g' hg => by cases hg; exact hgl.1)
        clear hownl hgrowl hown2 sb ss hgl R1
        have hll : (p ++ List.replicate k (0 : UInt8)).length ≤ 100 := by rw [List.length_append, List.length_replicate]; omega
        have hx1 : mulP q (p ++ List.replicate k 0) = mulP p q := by rw [mulP_comm]; exact mulP_congr (co_zeros _ _) rfl
        have hx2 : addP q (p ++ List.replicate k 0) = addP p q := by rw [addP_comm]; exact addP_congr (co_zeros _ _) rfl
        have H1 : Hid _ := hx1
        have H2 : Hid _ := hx2
        clear hx1 hx2
        replace hp := hp.below (Below.next (by repeat (first | exact Below.refl _ _ | apply Below.draws | apply below_lit)) b)
        replace hq := hq.below (Below.next (by repeat (first | exact Below.refl _ _ | apply Below.draws | apply below_lit)) b)
        replace F := F.below (Below.next (by repeat (first | exact Below.refl _ _ | apply Below.draws | apply below_lit)) b)
        replace B := Below.next B (Below.next (by repeat (first | exact Below.refl _ _ | apply Below.draws | apply below_lit)) b)
        clear b
        go_wp2_with fail
        refine (pmul_any (F.below (by repeat (first | exact Below.refl _ _ | apply Below.draws | apply below_lit))) (hp.below (by repeat (first | exact Below.refl _ _ | apply Below.draws | apply below_lit))) (hq.below (by repeat (first | exact Below.refl _ _ | apply Below.draws | apply below_lit))) (by omega) (by omega)).mono ?_
        rintro e u3 ⟨vm, rfl, rm, b⟩
        replace hp := hp.below (Below.next (by repeat (first | exact Below.refl _ _ | apply Below.draws | apply below_lit)) b)
        replace hq := hq.below (Below.next (by repeat (first | exact Below.refl _ _ | apply Below.draws | apply below_lit)) b)
        replace F := F.below (Below.next (by repeat (first | exact Below.refl _ _ | apply Below.draws | apply below_lit)) b)
        replace rl := rl.below (Below.next (by repeat (first | exact Below.refl _ _ | apply Below.draws | apply below_lit)) b)
        replace B := Below.next B (Below.next (by repeat (first | exact Below.refl _ _ | apply Below.draws | apply below_lit)) b)
        clear b
        obtain ⟨am, cm, em⟩ := rm.form
        subst em
        go_wp2_with fail
        refine (pmul_any (F.below (by repeat (first | exact Below.refl _ _ | apply Below.draws | apply below_lit))) (hq.below (by repeat (first | exact Below.refl _ _ | apply Below.draws | apply below_lit))) (rl.below (by repeat (first | exact Below.refl _ _ | apply Below.draws | apply below_lit))) (by omega) (by omega)).mono ?_
        rintro e u4 ⟨v2, rfl, r2, b⟩
        replace hp := hp.below (Below.next (by repeat (first | exact Below.refl _ _ | apply Below.draws | apply below_lit)) b)
        replace hq := hq.below (Below.next (by repeat (first | exact Below.refl _ _ | apply Below.draws | apply below_lit)) b)
        replace F := F.below (Below.next (by repeat (first | exact Below.refl _ _ | apply Below.draws | apply below_lit)) b)
        replace rl := rl.below (Below.next (by repeat (first | exact Below.refl _ _ | apply Below.draws | apply below_lit)) b)
        replace rm := rm.below (Below.next (by repeat (first | exact Below.refl _ _ | apply Below.draws | apply below_lit)) b)
        replace B := Below.next B (Below.next (by repeat (first | exact Below.refl _ _ | apply Below.draws | apply below_lit)) b)
        clear b
        rw [H1.out] at r2
        go_wp2_with fail
        refine (same_b (rm.below (by repeat (first | exact Below.refl _ _ | apply Below.draws | apply below_lit))) (r2.below (by repeat (first | exact Below.refl _ _ | apply Below.draws | apply below_lit)))).mono ?_
        rintro e u5 ⟨rfl, b⟩
        replace hp := hp.below (Below.next (by repeat (first | exact Below.refl _ _ | apply Below.draws | apply below_lit)) b)
        replace hq := hq.below (Below.next (by repeat (first | exact Below.refl _ _ | apply Below.draws | apply below_lit)) b)
        replace F := F.below (Below.next (by repeat (first | exact Below.refl _ _ | apply Below.draws | apply below_lit)) b)
        replace rl := rl.below (Below.next (by repeat (first | exact Below.refl _ _ | apply Below.draws | apply below_lit)) b)
        replace rm := rm.below (Below.next (by repeat (first | exact Below.refl _ _ | apply Below.draws | apply below_lit)) b)
        replace r2 := r2.below (Below.next (by repeat (first | exact Below.refl _ _ | apply Below.draws | apply below_lit)) b)
        replace B := Below.next B (Below.next (by repeat (first | exact Below.refl _ _ | apply Below.draws | apply below_lit)) b)
        clear b
        go_wp2_with fail
        refine (padd_any (hp.below (by repeat (first | exact Below.refl _ _ | apply Below.draws | apply below_lit))) (hq.below (by repeat (first | exact Below.refl _ _ | apply Below.draws | apply below_lit))) (by omega) (by omega)).mono ?_
        rintro e u6 ⟨v3, rfl, r3, b⟩
        replace hp := hp.below (Below.next (by repeat (first | exact Below.refl _ _ | apply Below.draws | apply below_lit)) b)
        replace hq := hq.below (Below.next (by repeat (first | exact Below.refl _ _ | apply Below.draws | apply below_lit)) b)
        replace F := F.below (Below.next (by repeat (first | exact Below.refl _ _ | apply Below.draws | apply below_lit)) b)
        replace rl := rl.below (Below.next (by repeat (first | exact Below.refl _ _ | apply Below.draws | apply below_lit)) b)
        replace rm := rm.below (Below.next (by repeat (first | exact Below.refl _ _ | apply Below.draws | apply below_lit)) b)
        replace r2 := r2.below (Below.next (by repeat (first | exact Below.refl _ _ | apply Below.draws | apply below_lit)) b)
        replace B := Below.next B (Below.next (by repeat (first | exact Below.refl _ _ | apply Below.draws | apply below_lit)) b)
        clear b
        go_wp2_with fail
        refine (padd_any (hq.below (by repeat (first | exact Below.refl _ _ | apply Below.draws | apply below_lit))) (rl.below (by repeat (first | exact Below.refl _ _ | apply Below.draws | apply below_lit))) (by omega) (by omega)).mono ?_
        rintro e u7 ⟨v4, rfl, r4, b⟩
        replace hp := hp.below (Below.next (by repeat (first | exact Below.refl _ _ | apply Below.draws | apply below_lit)) b)
        replace hq := hq.below (Below.next (by repeat (first | exact Below.refl _ _ | apply Below.draws | apply below_lit)) b)
        replace F := F.below (Below.next (by repeat (first | exact Below.refl _ _ | apply Below.draws | apply below_lit)) b)
        replace rl := rl.below (Below.next (by repeat (first | exact Below.refl _ _ | apply Below.draws | apply below_lit)) b)
        replace rm := rm.below (Below.next (by repeat (first | exact Below.refl _ _ | apply Below.draws | apply below_lit)) b)
        replace r2 := r2.below (Below.next (by repeat (first | exact Below.refl _ _ | apply Below.draws | apply below_lit)) b)
        replace r3 := r3.below (Below.next (by repeat (first | exact Below.refl _ _ | apply Below.draws | apply below_lit)) b)
        replace B := Below.next B (Below.next (by repeat (first | exact Below.refl _ _ | apply Below.draws | apply below_lit)) b)
        clear b
        rw [H2.out] at r4
        go_wp2_with fail
        refine (same_b (r3.below (by repeat (first | exact Below.refl _ _ | apply Below.draws | apply below_lit))) (r4.below (by repeat (first | exact Below.refl _ _ | apply Below.draws | apply below_lit)))).mono ?_
        rintro e u8 ⟨rfl, b⟩
        replace hp := hp.below (Below.next (by repeat (first | exact Below.refl _ _ | apply Below.draws | apply below_lit)) b)
        replace hq := hq.below (Below.next (by repeat (first | exact Below.refl _ _ | apply Below.draws | apply below_lit)) b)
        replace F := F.below (Below.next (by repeat (first | exact Below.refl _ _ | apply Below.draws | apply below_lit)) b)
        replace rl := rl.below (Below.next (by repeat (first | exact Below.refl _ _ | apply Below.draws | apply below_lit)) b)
        replace rm := rm.below (Below.next (by repeat (first | exact Below.refl _ _ | apply Below.draws | apply below_lit)) b)
        replace r2 := r2.below (Below.next (by repeat (first | exact Below.refl _ _ | apply Below.draws | apply below_lit)) b)
        replace r3 := r3.below (Below.next (by repeat (first | exact Below.refl _ _ | apply Below.draws | apply below_lit)) b)
        replace r4 := r4.below (Below.next (by repeat (first | exact Below.refl _ _ | apply Below.draws | apply below_lit)) b)
        replace B := Below.next B (Below.next (by repeat (first | exact Below.refl _ _ | apply Below.draws | apply below_lit)) b)
        clear b
        go_wp2_with fail
        refine (pnorm_any (hp.below (by repeat (first | exact Below.refl _ _ | apply Below.draws | apply below_lit))) (by omega)).mono ?_
        rintro e u9 ⟨v5, rfl, r5, b⟩
        replace hp := hp.below (Below.next (by repeat (first | exact Below.refl _ _ | apply Below.draws | apply below_lit)) b)
        replace hq := hq.below (Below.next (by repeat (first | exact Below.refl _ _ | apply Below.draws | apply below_lit)) b)
        replace F := F.below (Below.next (by repeat (first | exact Below.refl _ _ | apply Below.draws | apply below_lit)) b)
        replace rl := rl.below (Below.next (by repeat (first | exact Below.refl _ _ | apply Below.draws | apply below_lit)) b)
        replace rm := rm.below (Below.next (by repeat (first | exact Below.refl _ _ | apply Below.draws | apply below_lit)) b)
        replace r2 := r2.below (Below.next (by repeat (first | exact Below.refl _ _ | apply Below.draws | apply below_lit)) b)
        replace r3 := r3.below (Below.next (by repeat (first | exact Below.refl _ _ | apply Below.draws | apply below_lit)) b)
        replace r4 := r4.below (Below.next (by repeat (first | exact Below.refl _ _ | apply Below.draws | apply below_lit)) b)
        replace B := Below.next B (Below.next (by repeat (first | exact Below.refl _ _ | apply Below.draws | apply below_lit)) b)
        clear b
        obtain ⟨a5, c5, e5⟩ := r5.form
        subst e5
        go_wp2_with fail
        refine (pnorm_any (hq.below (by repeat (first | exact Below.refl _ _ | apply Below.draws | apply below_lit))) (by omega)).mono ?_
        rintro e u10 ⟨v6, rfl, r6, b⟩
        replace hp := hp.below (Below.next (by repeat (first | exact Below.refl _ _ | apply Below.draws | apply below_lit)) b)
        replace hq := hq.below (Below.next (by repeat (first | exact Below.refl _ _ | apply Below.draws | apply below_lit)) b)
        replace F := F.below (Below.next (by repeat (first | exact Below.refl _ _ | apply Below.draws | apply below_lit)) b)
        replace rl := rl.below (Below.next (by repeat (first | exact Below.refl _ _ | apply Below.draws | apply below_lit)) b)
        replace rm := rm.below (Below.next (by repeat (first | exact Below.refl _ _ | apply Below.draws | apply below_lit)) b)
        replace r2 := r2.below (Below.next (by repeat (first | exact Below.refl _ _ | apply Below.draws | apply below_lit)) b)
        replace r3 := r3.below (Below.next (by repeat (first | exact Below.refl _ _ | apply Below.draws | apply below_lit)) b)
        replace r4 := r4.below (Below.next (by repeat (first | exact Below.refl _ _ | apply Below.draws | apply below_lit)) b)
        replace r5 := r5.below (Below.next (by repeat (first | exact Below.refl _ _ | apply Below.draws | apply below_lit)) b)
        replace B := Below.next B (Below.next (by repeat (first | exact Below.refl _ _ | apply Below.draws | apply below_lit)) b)
        clear b
        obtain ⟨a6, c6, e6⟩ := r6.form
        subst e6
        rcases hdeg with ⟨d1, d2⟩ | ⟨d1, d2, d3⟩ | ⟨d1, d2, d3⟩
        all_goals go_wp2
        all_goals go_ret
        all_goals exact ⟨rfl, B⟩
  · by_cases h1 : p.length ≤ 50
    · have h2 : ¬ q.length ≤ 50 := fun h => hs ⟨h1, h⟩
      have k2 : decide ((50 : Int) < (q.length : Int)) = true := decide_eq_true (by omega)
      clear hs
      go_enter Try.func8, Try.ntmps8
      have B : Below w.heap.size w w := Below.refl _ _
      go_wp2_with fail
      refine (awake2_any _).mono ?_
      rintro e u1 ⟨rfl, b⟩
      replace hp := hp.below (Below.next (by repeat (first | exact Below.refl _ _ | apply Below.draws | apply below_lit)) b)
      replace hq := hq.below (Below.next (by repeat (first | exact Below.refl _ _ | apply Below.draws | apply below_lit)) b)
      replace B := Below.next B (Below.next (by repeat (first | exact Below.refl _ _ | apply Below.draws | apply below_lit)) b)
      clear b
      go_wp2_with fail
      refine (new_any _).mono ?_
      rintro e u2 ⟨rfl, F, hO⟩
      have b := hO.below
      clear hO
      replace hp := hp.below (Below.next (by repeat (first | exact Below.refl _ _ | apply Below.draws | apply below_lit)) b)
      replace hq := hq.below (Below.next (by repeat (first | exact Below.refl _ _ | apply Below.draws | apply below_lit)) b)
      replace B := Below.next B (Below.next (by repeat (first | exact Below.refl _ _ | apply Below.draws | apply below_lit)) b)
      clear b
      go_wp2
      go_ret
      exact ⟨rfl, B⟩
    · clear hs
      have k2 : decide ((50 : Int) < (p.length : Int)) = true := decide_eq_true (by omega)
      go_enter Try.func8, Try.ntmps8
      have B : Below w.heap.size w w := Below.refl _ _
      go_wp2_with fail
      refine (awake2_any _).mono ?_
      rintro e u1 ⟨rfl, b⟩
      replace hp := hp.below (Below.next (by repeat (first | exact Below.refl _ _ | apply Below.draws | apply below_lit)) b)
      replace hq := hq.below (Below.next (by repeat (first | exact Below.refl _ _ | apply Below.draws | apply below_lit)) b)
      replace B := Below.next B (Below.next (by repeat (first | exact Below.refl _ _ | apply Below.draws | apply below_lit)) b)
      clear b
      go_wp2_with fail
      refine (new_any _).mono ?_
      rintro e u2 ⟨rfl, F, hO⟩
      have b := hO.below
      clear hO
      replace hp := hp.below (Below.next (by repeat (first | exact Below.refl _ _ | apply Below.draws | apply below_lit)) b)
      replace hq := hq.below (Below.next (by repeat (first | exact Below.refl _ _ | apply Below.draws | apply below_lit)) b)
      replace B := Below.next B (Below.next (by repeat (first | exact Below.refl _ _ | apply Below.draws | apply below_lit)) b)
      clear b
      go_wp2
      go_ret
      exact ⟨rfl, B⟩

/-! ### THE ROW's STEP: WRITTEN OUT: LEAVE IT -/
set_option maxRecDepth 100000 in
theorem lifted (os : Os) (started : os.Started) (H : Type) (enc : TypeId × Value → H) :
    ReturnsInHanded {} Try.checked os 8 .any (Rows.polyOrderSpec.pre6 enc Try.prog Try.f8 Rows.polyOrderRow.domain false) (Rows.polyOrderSpec.post enc Try.prog Try.f8 false true false false) := by
  refine returnsInHanded_of_change (C := Try.checked) own started (by kernel_rfl) Try.func8
    (ChangeSpec.witness6 (enc := enc) (C := Try.checked) false ⟨#[], #[.slice none 0 0, .slice none 0 0, .int .i64 0], []⟩ 8 (by kernel_rfl) (by kernel_rfl) (by kernel_rfl) (by kernel_rfl)) ?_
  intro W base args ds gs before hval0 hW hcnd _
  have hval : ∀ (j : Nat) t v, Try.f8.params[j]? = some t → args[j]? = some v → Value.okWide Try.prog W .any base t v := hval0
  have hW' := hW
  obtain ⟨p, q, hA0, hV, rfl, hfz, hnd⟩ := hW
  have hA : DataW.TrodAll enc Try.prog W 0 (fun _ => true) true Try.f8.params.toList args.toList ds p := hA0
  rw [Try.params8] at hA hval
  obtain ⟨v0, vs0, d0, ds0, p0, q0, hargs, rfl, rfl, h0, r0⟩ := trodAll_cons hA
  obtain ⟨v1, vs1, d1, ds1, p1, q1, rfl, rfl, rfl, h1, r1⟩ := trodAll_cons r0
  obtain ⟨v2, vs2, d2, ds2, p2, q2, rfl, rfl, rfl, h2, r2⟩ := trodAll_cons r1
  obtain ⟨rfl, rfl, rfl⟩ := trodAll_nil r2
  obtain rfl : args = #[v0, v1, v2] := by cases args; simp_all
  obtain ⟨rfl, rfl⟩ := trodVars_none hV
  obtain ⟨a0, len0, cap0, rfl⟩ := okWide_slice Try.underlying23 (hval 0 23 v0 rfl rfl)
  have k0 := h0
  have lt0 : ∀ x ∈ p0, x.block < W.heap.size := by obtain ⟨m, hm⟩ := k0; exact DataW.trod_lt m _ _ _ hm
  obtain ⟨z0, w0⟩ : ∃ zs, IsRow .u8 W a0 len0 cap0 zs := by
    obtain ⟨fuel, hf⟩ := h0
    rcases open_ints Try.underlying23 Try.underlying5 (by kernel_rfl) hf with ⟨hcs, _⟩ | ⟨x, l, c, zs, hcs, _, hl, hm, hz, _, hcell, hwz⟩
    · simp [Value.cells] at hcs
      obtain ⟨rfl, rfl, rfl⟩ := hcs
      exact ⟨[], .inl ⟨rfl, rfl, rfl, rfl⟩⟩
    · simp [Value.cells] at hcs
      obtain ⟨rfl, rfl, rfl⟩ := hcs
      exact ⟨zs, .inr ⟨_, rfl, hl, hm, by simpa using hz, hcell, hwz⟩⟩
  obtain ⟨a1, len1, cap1, rfl⟩ := okWide_slice Try.underlying23 (hval 1 23 v1 rfl rfl)
  have k1 := h1
  have lt1 : ∀ x ∈ p1, x.block < W.heap.size := by obtain ⟨m, hm⟩ := k1; exact DataW.trod_lt m _ _ _ hm
  obtain ⟨z1, w1⟩ : ∃ zs, IsRow .u8 W a1 len1 cap1 zs := by
    obtain ⟨fuel, hf⟩ := h1
    rcases open_ints Try.underlying23 Try.underlying5 (by kernel_rfl) hf with ⟨hcs, _⟩ | ⟨x, l, c, zs, hcs, _, hl, hm, hz, _, hcell, hwz⟩
    · simp [Value.cells] at hcs
      obtain ⟨rfl, rfl, rfl⟩ := hcs
      exact ⟨[], .inl ⟨rfl, rfl, rfl, rfl⟩⟩
    · simp [Value.cells] at hcs
      obtain ⟨rfl, rfl, rfl⟩ := hcs
      exact ⟨zs, .inr ⟨_, rfl, hl, hm, by simpa using hz, hcell, hwz⟩⟩
  obtain ⟨a2, rfl, rfl, rfl, w2⟩ := open_int Try.underlying3 (hval 2 3 v2 rfl rfl) h2
  clear hA0 hval0
  refine (walk a0 len0 cap0 z0 a1 len1 cap1 z1 a2 W w0 w1 w2).mono fun e W' ⟨he, bel⟩ => ?_
  subst he
  exact ⟨_, rfl, _, _, _, [], _, [], hW', trodAll_mk1 (shut_bool Try.underlying4 _), (trodAll_cons_mk (Below.trod laidOut (by kernel_rfl) (of_decide_eq_true (by kernel_rfl)) k0 bel lt0) (trodAll_cons_mk (Below.trod laidOut (by kernel_rfl) (of_decide_eq_true (by kernel_rfl)) k1 bel lt1) (trodAll_cons_mk (shut_int Try.underlying3 w2) trodAll_mk0))), rfl, bel.frame _, fun h => by cases h⟩

theorem over : Rows.polyOrderRow.holds Try.pinned (OpenSpec.ofChange Rows.polyOrderSpec) :=
  OpenClaim.holds_of_wide 8 Try.f8 rfl rfl rfl rfl rfl rfl rfl ⟨rfl, rfl, rfl, rfl, rfl⟩ rfl rfl rfl rfl rfl (by kernel_rfl) Try.func8 (by kernel_rfl)
    (of_decide_eq_true (by kernel_rfl)) (by unfold Func.isWrapper; first | (rw [if_pos (by decide +kernel)]; kernel_rfl) | (rw [if_neg (by decide +kernel)]; exact ⟨rfl, rfl⟩))
    (fun os started H enc _ => lifted os started H enc)

/-- ████ THE STATEMENT ████ -/
theorem proved : Rows.PolyOrderSaid := over
end Go.Proofs.Ytjojcdikkgnfgaa.polyOrder
namespace Go.Proofs.Ytjojcdikkgnfgaa
theorem polyOrder_holds : Rows.PolyOrderSaid := polyOrder.proved
#print axioms polyOrder_holds
end Go.Proofs.Ytjojcdikkgnfgaa
