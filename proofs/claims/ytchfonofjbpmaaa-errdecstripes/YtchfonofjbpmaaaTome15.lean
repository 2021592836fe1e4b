/- TEXTS JOINED: MxCB, MxCC, MxGJ, MxFn, MxCG, ErCD, CaRefC, GfRefMath, GfRefMul, GfRefInv. -/
import Derived.Test.YtchfonofjbpmaaaTome7
import Derived.Test.YtchfonofjbpmaaaTome14
import Derived.Deep.RegionWith
import Derived.Test.YtchfonofjbpmaaaTome8
import Derived.Deep.CutRange
import Derived.WalkMore
import Derived.Test.YtchfonofjbpmaaaTome3
import Derived.WalkKit
import Derived.Test.YtchfonofjbpmaaaTome1
import Derived.WalkSpells
/-
  THE PROGRAM's 'addTimes' AND 'swap' BY CONTRACT: nothing but the row that is written turns.
-/



namespace Go.Proofs.Ytchfonofjbpmaaa.Gf
set_option linter.unusedVariables false
set_option linter.unusedSimpArgs false
open Go.RowKit

/-- the sum of a part of a row with a multiple of another one -/
def plus (f : Nat → UInt8) (o : Nat) (q : Nat → UInt8) (a : UInt8) (k : Nat) : UInt8 := f (o + k) ^^^ mu (q k) a
theorem plus_zero (f : Nat → UInt8) (o n : Nat) (q : Nat → UInt8) : putAt f o n (plus f o q 0) = f := by
  funext t
  unfold putAt plus
  by_cases h : o ≤ t ∧ t < o + n
  · rw [if_pos h, mu_zero, x_zero, show o + (t - o) = t by omega]
  · rw [if_neg h]

set_option maxRecDepth 100000 in
set_option maxHeartbeats 2000000 in
theorem addt_main {w : World} {base u g L C o n c cc b bt ot : Nat} {f : Nat → UInt8} (q : List UInt8) (a : UInt8) (ha : a ≠ 0) (hF : FieldAt w b) (hbg : b ≠ g) (hR : RowF w base u g L C f) (hn : q.length = n) (ho : o + n ≤ L) (hL : L ≤ 1000000)
    (hread : ∀ wr fr, Only g w wr → RowF wr base u g L C fr → (∀ t, t < o ∨ o + n ≤ t → fr t = f t) → ∀ k, k < n → wr.cell? ⟨bt, ot + k, none⟩ = some (.int .u8 ((co q k).toNat : Nat))) :
    Calls Try.prog 122 #[.pointer (some ⟨b, 0, none⟩), .slice (some ⟨g, o, none⟩) n c, .slice (some ⟨bt, ot, none⟩) n cc, .int .u8 ((a.toNat : Nat) : Int)] w fun e w' =>
      e = .returned (.tuple #[]) ∧ Only g w w' ∧ RowF w' base u g L C (putAt f o n (plus f o (co q) a)) := by
  have k0 : (((a.toNat : Nat) : Int) == 0) = false := by rw [eq_u8_zero]; exact decide_eq_false ha
  clear ha
  go_enter Try.func122, Try.ntmps122
  go_wp2
  go_loopw [13] (fun i wr => ∃ k : Nat, k ≤ n ∧ i = .int .i64 k ∧ Only g w wr ∧ RowF wr base u g L C (putAt f o k (plus f o (co q) a))) (fun i _ => n - (intOf i).toNat)
  case atStart => exact ⟨0, by omega, rfl, Only.refl _ _, by rw [putAt_zero]; exact hR⟩
  case round =>
    obtain ⟨k, hk, rfl, hO, hRk⟩ := hrel
    by_cases hlt : k < n
    · have ct := hread _ _ hO hRk (fun t ht => putAt_out (by omega)) k hlt
      obtain ⟨t, ht⟩ : ∃ t, Hid (t = o + k) := ⟨_, rfl⟩
      have htl : t < L := by have := ht.out; omega
      have c1 := hRk.cell htl
      have f1 := hRk.unfrozen t
      have e1 : putAt f o k (plus f o (co q) a) t = f t := putAt_out (by have := ht.out; omega)
      rw [e1] at c1
      have E := xor_u8 (f t) (mu (co q k) a)
      have HN : Hid (RowF (wr.setCell ⟨g, t, none⟩ (.int .u8 (((f t).toNat ^^^ (mu (co q k) a).toNat : Nat) : Int))) base u g L C (putAt f o (k + 1) (plus f o (co q) a))) := by
        rw [← UInt8.toNat_xor]
        refine hRk.store htl _ fun s => ?_
        rw [putAt_step, ht.out]; rfl
      have HO : Hid (Only g w (wr.setCell ⟨g, t, none⟩ (.int .u8 (((f t).toNat ^^^ (mu (co q k) a).toNat : Nat) : Int)))) := hO.setCell t _
      have hFr := hF.only hbg hO
      have hlt' : (k : Int) < (n : Int) := by omega
      rw [ht.out] at c1 f1 E HN HO
      clear hread hRk hO hR e1 ht htl
      go_wp2
      go_region_with ((go_at_call 45; refine (fmu_quiet (hFr.drewN _) (co q k) a rfl rfl).mono ?_; rintro e w' ⟨rfl, d, rfl⟩))
      all_goals go_wp2
      all_goals
        go_roundw
        case rel => exact ⟨k + 1, by omega, by go_num, HO.out.drewN _, HN.out.drewN _⟩
        case measure => simp [intOf]; omega
    · have e : k = n := by omega
      subst e
      clear hread
      go_wp2
      go_end0
      exact ⟨rfl, hO, hRk⟩

set_option maxRecDepth 100000 in
set_option maxHeartbeats 1000000 in
theorem addt_zero (v1 v2 v3 : Value) (w : World) :
    Calls Try.prog 122 #[v1, v2, v3, .int .u8 0] w fun e w' => e = .returned (.tuple #[]) ∧ w' = w := by
  go_enter Try.func122, Try.ntmps122
  go_wp2
  refine bodyPost_ret (results_none rfl _ _ _) rfl ?_
  exact ⟨rfl, rfl⟩
set_option maxRecDepth 100000 in
set_option maxHeartbeats 1000000 in
theorem addt_nil (v1 v2 : Value) (ao : Option Addr) (cap : Nat) (a : UInt8) (ha : a ≠ 0) (w : World) :
    Calls Try.prog 122 #[v1, v2, .slice ao 0 cap, .int .u8 ((a.toNat : Nat) : Int)] w fun e w' => e = .returned (.tuple #[]) ∧ w' = w := by
  have k0 : (((a.toNat : Nat) : Int) == 0) = false := by rw [eq_u8_zero]; exact decide_eq_false ha
  clear ha
  go_enter Try.func122, Try.ntmps122
  go_wp2
  go_loopw [13] (fun i wr => i = .int .i64 0 ∧ wr = w) (fun _ _ => 0)
  case atStart => exact ⟨rfl, rfl⟩
  case round =>
    obtain ⟨rfl, rfl⟩ := hrel
    go_wp2
    go_end0
    exact ⟨rfl, rfl⟩
/-- a multiple of a row that lies elsewhere -/
theorem addt_apart {w : World} {base u g L C o n c b : Nat} {f : Nat → UInt8} {vt : Value} {q : List UInt8} (a : UInt8) {y : Int} (hy : y = ((a.toNat : Nat) : Int)) (hF : FieldAt w b) (hbg : b ≠ g) (hR : RowF w base u g L C f) (hq : Rd w vt q) (hap : Apart g vt) (hn : q.length = n) (ho : o + n ≤ L) (hL : L ≤ 1000000) :
    Calls Try.prog 122 #[.pointer (some ⟨b, 0, none⟩), .slice (some ⟨g, o, none⟩) n c, vt, .int .u8 y] w fun e w' =>
      e = .returned (.tuple #[]) ∧ Only g w w' ∧ RowF w' base u g L C (putAt f o n (plus f o (co q) a)) := by
  subst hy
  by_cases ha : a = 0
  · subst ha
    refine (addt_zero _ _ _ w).mono ?_
    rintro e w' ⟨rfl, rfl⟩
    exact ⟨rfl, Only.refl _ _, by rw [plus_zero]; exact hR⟩
  · rcases hq with ⟨ao, cap, rfl, rfl, _⟩ | ⟨bt, ot, cap, hp0, rfl, h1, h2, h3, hpc⟩
    · simp at hn; subst hn
      refine (addt_nil _ _ ao cap a ha w).mono ?_
      rintro e w' ⟨rfl, rfl⟩
      exact ⟨rfl, Only.refl _ _, by rw [putAt_zero]; exact hR⟩
    · have hb : bt ≠ g := by
        rcases hap _ _ _ rfl with e | e
        · exact absurd (List.length_eq_zero_iff.1 e) hp0
        · exact e
      have := addt_main (w := w) (o := o) (c := c) (cc := cap) (bt := bt) (ot := ot) q a ha hF hbg hR hn ho hL (fun wr fr hO _ _ k hk => (hO.cell (p := ⟨bt, ot + k, none⟩) hb).trans (hpc k (by omega)))
      rw [hn]
      exact this
/-- .. of another part of the same one -/
theorem addt_same {w : World} {base u g L C o o2 n c cc b : Nat} {f : Nat → UInt8} (a : UInt8) {y : Int} (hy : y = ((a.toNat : Nat) : Int)) (hF : FieldAt w b) (hbg : b ≠ g) (hR : RowF w base u g L C f) (ho : o + n ≤ L) (ho2 : o2 + n ≤ L) (hL : L ≤ 1000000) (hd : o + n ≤ o2 ∨ o2 + n ≤ o) :
    Calls Try.prog 122 #[.pointer (some ⟨b, 0, none⟩), .slice (some ⟨g, o, none⟩) n c, .slice (some ⟨g, o2, none⟩) n cc, .int .u8 y] w fun e w' =>
      e = .returned (.tuple #[]) ∧ Only g w w' ∧ RowF w' base u g L C (putAt f o n (plus f o (fun k => f (o2 + k)) a)) := by
  subst hy
  by_cases ha : a = 0
  · subst ha
    refine (addt_zero _ _ _ w).mono ?_
    rintro e w' ⟨rfl, rfl⟩
    exact ⟨rfl, Only.refl _ _, by rw [plus_zero]; exact hR⟩
  · refine (addt_main (w := w) (o := o) (c := c) (cc := cc) (bt := g) (ot := o2) (n := n) (upto (fun k => f (o2 + k)) n) a ha hF hbg hR (upto_length _ _) ho hL (fun wr fr hO hRr hfr k hk => ?_)).mono ?_
    · rw [hRr.cell (show o2 + k < L by omega), hfr _ (by omega), co_upto_lt hk]
    · rintro e w' ⟨rfl, hO, hR'⟩
      refine ⟨rfl, hO, ?_⟩
      rw [putAt_congr (q' := plus f o (co (upto (fun k => f (o2 + k)) n)) a) (fun k hk => by unfold plus; rw [co_upto_lt hk])]
      exact hR'

/-- two parts that change places, the first k numbers of them -/
def swapK (f : Nat → UInt8) (o1 o2 k : Nat) (t : Nat) : UInt8 := if o1 ≤ t ∧ t < o1 + k then f (o2 + (t - o1)) else if o2 ≤ t ∧ t < o2 + k then f (o1 + (t - o2)) else f t
theorem swapK_zero (f : Nat → UInt8) (o1 o2 : Nat) : swapK f o1 o2 0 = f := by funext t; unfold swapK; rw [if_neg (by omega), if_neg (by omega)]
theorem swapK_same (f : Nat → UInt8) (o k : Nat) : swapK f o o k = f := by
  funext t; unfold swapK
  by_cases h : o ≤ t ∧ t < o + k
  · rw [if_pos h, show o + (t - o) = t by omega]
  · rw [if_neg h, if_neg h]
theorem swapK_step {f : Nat → UInt8} {o1 o2 n k : Nat} (hd : o1 + n ≤ o2 ∨ o2 + n ≤ o1) (hk : k < n) (t : Nat) : swapK f o1 o2 (k + 1) t = if t = o2 + k then f (o1 + k) else if t = o1 + k then f (o2 + k) else swapK f o1 o2 k t := by
  unfold swapK
  by_cases e2 : t = o2 + k
  · subst e2; rw [if_neg (by omega), if_pos (by omega), if_pos rfl, show o1 + (o2 + k - o2) = o1 + k by omega]
  · rw [if_neg e2]
    by_cases e1 : t = o1 + k
    · subst e1; rw [if_pos (by omega), if_pos rfl, show o2 + (o1 + k - o1) = o2 + k by omega]
    · rw [if_neg e1]
      by_cases h1 : o1 ≤ t ∧ t < o1 + k
      · rw [if_pos h1, if_pos (by omega)]
      · rw [if_neg h1, if_neg (by omega)]
        by_cases h2 : o2 ≤ t ∧ t < o2 + k
        · rw [if_pos h2, if_pos (by omega)]
        · rw [if_neg h2, if_neg (by omega)]

set_option maxRecDepth 100000 in
set_option maxHeartbeats 2000000 in
theorem swp_apart {w : World} {base u g L C o1 o2 n c cc : Nat} {f : Nat → UInt8} (hR : RowF w base u g L C f) (h1 : o1 + n ≤ L) (h2 : o2 + n ≤ L) (hL : L ≤ 1000000) (hd : o1 + n ≤ o2 ∨ o2 + n ≤ o1) :
    Calls Try.prog 105 #[.slice (some ⟨g, o1, none⟩) n c, .slice (some ⟨g, o2, none⟩) n cc] w fun e w' =>
      e = .returned (.tuple #[]) ∧ Only g w w' ∧ RowF w' base u g L C (swapK f o1 o2 n) := by
  go_enter Try.func105, Try.ntmps105
  go_wp2
  go_loopw [7] (fun i wr => ∃ k : Nat, k ≤ n ∧ i = .int .i64 k ∧ Only g w wr ∧ RowF wr base u g L C (swapK f o1 o2 k)) (fun i _ => n - (intOf i).toNat)
  case atStart => exact ⟨0, by omega, rfl, Only.refl _ _, by rw [swapK_zero]; exact hR⟩
  case round =>
    obtain ⟨k, hk, rfl, hO, hRk⟩ := hrel
    by_cases hlt : k < n
    · have c1 := hRk.cell (show o1 + k < L by omega)
      have c2 := hRk.cell (show o2 + k < L by omega)
      have f1 := hRk.unfrozen (o1 + k)
      have f2 := hRk.unfrozen (o2 + k)
      have e1 : swapK f o1 o2 k (o1 + k) = f (o1 + k) := by unfold swapK; rw [if_neg (by omega), if_neg (by omega)]
      have e2 : swapK f o1 o2 k (o2 + k) = f (o2 + k) := by unfold swapK; rw [if_neg (by omega), if_neg (by omega)]
      rw [e1] at c1
      rw [e2] at c2
      have hne : ¬ o1 + k = o2 + k := by omega
      have hne2 : ¬ o2 + k = o1 + k := by omega
      have hne3 : ¬ o1 = o2 := by omega
      have hne4 : ¬ o2 = o1 := by omega
      have HN : Hid (RowF ((wr.setCell ⟨g, o1 + k, none⟩ (.int .u8 ((f (o2 + k)).toNat : Nat))).setCell ⟨g, o2 + k, none⟩ (.int .u8 ((f (o1 + k)).toNat : Nat))) base u g L C (swapK f o1 o2 (k + 1))) := by
        refine (hRk.store (f' := fun t => if t = o1 + k then f (o2 + k) else swapK f o1 o2 k t) (show o1 + k < L by omega) _ (fun t => rfl)).store (show o2 + k < L by omega) _ fun t => ?_
        exact swapK_step hd hlt t
      have HO : Hid (Only g w ((wr.setCell ⟨g, o1 + k, none⟩ (.int .u8 ((f (o2 + k)).toNat : Nat))).setCell ⟨g, o2 + k, none⟩ (.int .u8 ((f (o1 + k)).toNat : Nat)))) := (hO.setCell _ _).setCell _ _
      have hlt' : (k : Int) < (n : Int) := by omega
      clear hRk hO hR e1 e2
      go_wp2
      go_region
      all_goals go_wp2
      all_goals
        go_roundw
        case rel => exact ⟨k + 1, by omega, by go_num, HO.out.drewN _, HN.out.drewN _⟩
        case measure => simp [intOf]; omega
    · have e : k = n := by omega
      subst e
      go_wp2
      go_end0
      exact ⟨rfl, hO, hRk⟩

set_option maxRecDepth 100000 in
set_option maxHeartbeats 2000000 in
theorem swp_same {w : World} {base u g L C o n c cc : Nat} {f : Nat → UInt8} (hR : RowF w base u g L C f) (h1 : o + n ≤ L) (hL : L ≤ 1000000) :
    Calls Try.prog 105 #[.slice (some ⟨g, o, none⟩) n c, .slice (some ⟨g, o, none⟩) n cc] w fun e w' =>
      e = .returned (.tuple #[]) ∧ Only g w w' ∧ RowF w' base u g L C f := by
  go_enter Try.func105, Try.ntmps105
  go_wp2
  go_loopw [7] (fun i wr => ∃ k : Nat, k ≤ n ∧ i = .int .i64 k ∧ Only g w wr ∧ RowF wr base u g L C f) (fun i _ => n - (intOf i).toNat)
  case atStart => exact ⟨0, by omega, rfl, Only.refl _ _, hR⟩
  case round =>
    obtain ⟨k, hk, rfl, hO, hRk⟩ := hrel
    by_cases hlt : k < n
    · have c1 := hRk.cell (show o + k < L by omega)
      have f1 := hRk.unfrozen (o + k)
      have R1 := hRk.store (f' := f) (show o + k < L by omega) (f (o + k)) (fun t => by by_cases e : t = o + k <;> simp [e])
      have c2 := R1.cell (show o + k < L by omega)
      have HN : Hid (RowF ((wr.setCell ⟨g, o + k, none⟩ (.int .u8 ((f (o + k)).toNat : Nat))).setCell ⟨g, o + k, none⟩ (.int .u8 ((f (o + k)).toNat : Nat))) base u g L C f) := by
        refine R1.store (show o + k < L by omega) _ fun t => ?_
        by_cases e : t = o + k <;> simp [e]
      have HO : Hid (Only g w ((wr.setCell ⟨g, o + k, none⟩ (.int .u8 ((f (o + k)).toNat : Nat))).setCell ⟨g, o + k, none⟩ (.int .u8 ((f (o + k)).toNat : Nat)))) := (hO.setCell _ _).setCell _ _
      have hlt' : (k : Int) < (n : Int) := by omega
      clear hRk hO hR R1
      go_wp2
      go_region
      all_goals go_wp2
      all_goals
        go_roundw
        case rel => exact ⟨k + 1, by omega, by go_num, HO.out.drewN _, HN.out.drewN _⟩
        case measure => simp [intOf]; omega
    · have e : k = n := by omega
      subst e
      go_wp2
      go_end0
      exact ⟨rfl, hO, hRk⟩

end Go.Proofs.Ytchfonofjbpmaaa.Gf

/-
  THE PROGRAM's 'clearColumn' BY CONTRACT.
-/



namespace Go.Proofs.Ytchfonofjbpmaaa.Gf
set_option linter.unusedVariables false
set_option linter.unusedSimpArgs false
open Go.RowKit

theorem finv_at3 {b : Nat} {w : World} (hF : FieldAt w b) (a : UInt8) (ha : a ≠ 0) {x : Int} (hx : x = ((a.toNat : Nat) : Int)) :
    Calls Try.prog 79 #[.pointer (some ⟨b, 0, none⟩), .int .u8 x] w fun e w' => e = .returned (.tuple #[.int .u8 ((iv a).toNat : Nat), .int .i64 0]) ∧ ∃ n, w' = w.drewN n := by
  have h := inv_all hF a.toNat hx (u8_lt a)
  rw [zE_pos (u8_ne ha), ← iv_toNat] at h
  exact h

/-- the pivot's row, scaled; the first k other rows, cleared -/
def clrK (F : Mx) (c k : Nat) : Mx := fun i j => if i = c then mu (F c j) (iv (F c c)) else if i < k then F i j ^^^ mu (mu (F c j) (iv (F c c))) (F i c) else F i j
theorem clrK_zero (F : Mx) (c : Nat) {r C : Nat} : ∀ t, t < r * C → putAt (pl C F) (c * C) C (fun j => mu (pl C F (c * C + j)) (iv (F c c))) t = pl C (clrK F c 0) t := by
  intro t ht
  have hC : 0 < C := by
    rcases Nat.eq_zero_or_pos C with e | e
    · rw [e, Nat.mul_zero] at ht; omega
    · exact e
  rw [putAt_congr (q' := fun j => mu (F c j) (iv (F c c))) (fun k hk => by rw [pl_at F hk]), pl_put F _ t ht]
  refine pl_congr (r := r) (fun i j _ _ => ?_) t ht
  unfold clrK
  by_cases e : i = c
  · rw [if_pos e, if_pos e]
  · rw [if_neg e, if_neg e, if_neg (by omega)]
theorem clrK_skip (F : Mx) (c : Nat) : clrK F c (c + 1) = clrK F c c := by
  funext i j
  unfold clrK
  by_cases e : i = c
  · rw [if_pos e, if_pos e]
  · rw [if_neg e, if_neg e]
    by_cases h : i < c
    · rw [if_pos h, if_pos (by omega)]
    · rw [if_neg h, if_neg (by omega)]
theorem clrK_step {F : Mx} {c k r C : Nat} (hkc : k ≠ c) : ∀ t, t < r * C → putAt (pl C (clrK F c k)) (k * C) C (plus (pl C (clrK F c k)) (k * C) (fun j => pl C (clrK F c k) (c * C + j)) (F k c)) t = pl C (clrK F c (k + 1)) t := by
  intro t ht
  have hC : 0 < C := by
    rcases Nat.eq_zero_or_pos C with e | e
    · rw [e, Nat.mul_zero] at ht; omega
    · exact e
  rw [putAt_congr (q' := fun j => F k j ^^^ mu (mu (F c j) (iv (F c c))) (F k c)) (fun j hj => ?_), pl_put _ _ t ht]
  · refine pl_congr (r := r) (fun i j _ _ => ?_) t ht
    unfold clrK
    by_cases e : i = k
    · subst e; rw [if_pos rfl, if_neg hkc, if_pos (by omega)]
    · rw [if_neg e]
      by_cases e2 : i = c
      · rw [if_pos e2, if_pos e2]
      · rw [if_neg e2, if_neg e2]
        by_cases h : i < k
        · rw [if_pos h, if_pos (by omega)]
        · rw [if_neg h, if_neg (by omega)]
  · unfold plus
    show pl C (clrK F c k) (k * C + j) ^^^ mu (pl C (clrK F c k) (c * C + j)) (F k c) = _
    rw [pl_at _ hj, pl_at _ hj]
    unfold clrK
    rw [if_neg hkc, if_neg (by omega), if_pos rfl]
theorem cells_on {W w' : World} (hb : Below W.heap.size W w') {a0 a1 a2 a3 : Addr} {v0 v1 v2 v3 : Value} (h0 : W.cell? a0 = some v0) (h1 : W.cell? a1 = some v1) (h2 : W.cell? a2 = some v2) (h3 : W.cell? a3 = some v3) :
    w'.cell? a0 = some v0 ∧ w'.cell? a1 = some v1 ∧ w'.cell? a2 = some v2 ∧ w'.cell? a3 = some v3 :=
  ⟨(hb.cell (World.block_lt_of_cell? W _ h0)).trans h0, (hb.cell (World.block_lt_of_cell? W _ h1)).trans h1, (hb.cell (World.block_lt_of_cell? W _ h2)).trans h2, (hb.cell (World.block_lt_of_cell? W _ h3)).trans h3⟩
theorem Turn.drewN {g : Nat} {a w : World} (h : Turn g a w) (n : Nat) : Turn g a (w.drewN n) := ⟨h.os, h.tape, h.output, h.size, h.block⟩
theorem Turn.drewL {g : Nat} {a w : World} {n : Nat} (h : Turn g (a.drewN n) w) : Turn g a w := ⟨h.os, h.tape, h.output, h.size, h.block⟩

set_option maxRecDepth 100000 in
set_option maxHeartbeats 4000000 in
theorem clr_any {w : World} {base g m n C c b : Nat} {F : Mx} {x : Int} (hx : x = (c : Int)) (hF : FieldAt w b) (hbg : b ≠ g) (hR : RowF w base 5 g m m (pl C F)) (hm : Hid (m = n * C)) (hn : n ≤ 256) (hC : C ≤ 512) (hcn : c < n) (hcC : c < C) (hp : F c c ≠ 0) :
    Calls Try.prog 106 #[.pointer (some ⟨b, 0, none⟩), .agg #[.int .i64 (n : Int), .int .i64 (C : Int), .slice (some ⟨g, 0, none⟩) m m], .int .i64 x] w fun e w' =>
      e = .returned (.tuple #[]) ∧ Turn g w w' ∧ RowF w' base 5 g m m (pl C (clrK F c n)) := by
  subst hx
  have hmm : m ≤ 256 * 512 := by rw [hm.out]; exact Nat.mul_le_mul hn hC
  have hlt := hR.lt
  go_enter Try.func106, Try.ntmps106
  have hA : Below w.heap.size w (w.alloc (.cells #[.int .i64 (n : Int), .int .i64 (C : Int), .slice (some ⟨g, 0, none⟩) m m] 74)) := (Below.refl _ _).alloc (Nat.le_refl _) _
  have X0 := Box.new w (n : Int) (C : Int) (.slice (some ⟨g, 0, none⟩) m m) 74
  go_wp2_with fail
  refine (row_own rfl hcn hm hn hC).mono ?_
  rintro e w1 ⟨rfl, b1⟩
  have T1 : Turn g w w1 := (Below.turn hA g).trans (Below.turn b1 g)
  have X1 : Box w1 w.heap.size (n : Int) (C : Int) (.slice (some ⟨g, 0, none⟩) m m) := Below.box b1 (by simp) X0
  have hsz : w.heap.size < w1.heap.size := by have := b1.size; simp at this; omega
  replace hR := (hR.later hA).later b1
  replace hF := hF.turn hbg T1
  have hsg : w.heap.size ≠ g := by omega
  clear hA X0 b1
  have hcm : c * C + C ≤ m := by rw [hm.out, ← Nat.succ_mul]; exact Nat.mul_le_mul_right C hcn
  have c1 := hR.cell (show c * C + c < m by omega)
  rw [pl_at F hcC] at c1
  obtain ⟨o, ho⟩ : ∃ o, Hid (o = c * C) := ⟨_, rfl⟩
  rw [← ho.out] at hcm c1 ⊢
  have hcC' : (c : Int) < (C : Int) := by omega
  go_wp2_with fail
  refine (finv_at3 hF (F c c) hp rfl).mono ?_
  rintro e w2 ⟨rfl, d, rfl⟩
  obtain ⟨iv0, hiv⟩ : ∃ iv0, Hid (iv0 = iv (F c c)) := ⟨_, rfl⟩
  rw [← hiv.out]
  clear c1
  have R2 : RowF (w1.drewN d) base 5 g m m (putAt (pl C F) o 0 (fun j => mu (pl C F (o + j)) iv0)) := by rw [putAt_zero]; exact hR.drewN d
  have F2 := hF.drewN d
  have T2 := T1.drewN d
  have X2 := X1.drewN d
  have sz2 : w.heap.size < (w1.drewN d).heap.size := hsz
  obtain ⟨w2, hw2⟩ : ∃ w2, w2 = w1.drewN d := ⟨_, rfl⟩
  rw [← hw2] at R2 F2 T2 X2 sz2 ⊢
  clear hw2 hR hF T1 X1 hsz
  have O2 : Only g w2 w2 := Only.refl _ _
  go_wp2
  go_loopw [25] (fun i wr => ∃ k : Nat, k ≤ C ∧ i = .int .i64 k ∧ Only g w2 wr ∧ RowF wr base 5 g m m (putAt (pl C F) o k (fun j => mu (pl C F (o + j)) iv0))) (fun i _ => C - (intOf i).toNat)
  case atStart => exact ⟨0, by omega, rfl, O2, R2⟩
  case round =>
    obtain ⟨k, hk, rfl, hO, hRk⟩ := hrel
    clear O2 R2
    by_cases hk2 : k < C
    · have k1 := hRk.cell (show o + k < m by omega)
      rw [putAt_out (by omega)] at k1
      have hk2' : (k : Int) < (C : Int) := by omega
      have hFr := F2.only hbg hO
      go_wp2_with fail
      refine (fmu_quiet hFr (pl C F (o + k)) iv0 rfl rfl).mono ?_
      rintro e w3 ⟨rfl, d, rfl⟩
      have k3 : (wr.drewN d).cell? ⟨g, o + k, none⟩ = some (.int .u8 ((pl C F (o + k)).toNat : Nat)) := k1
      have f1 : (wr.drewN d).frozen? ⟨g, o + k, none⟩ = false := hRk.unfrozen (o + k)
      have HN : Hid (RowF ((wr.drewN d).setCell ⟨g, o + k, none⟩ (.int .u8 ((mu (pl C F (o + k)) iv0).toNat : Nat))) base 5 g m m (putAt (pl C F) o (k + 1) (fun j => mu (pl C F (o + j)) iv0))) :=
        (hRk.drewN d).store (show o + k < m by omega) _ (fun t => putAt_step _ _ _ _ t)
      have HO : Hid (Only g w2 ((wr.drewN d).setCell ⟨g, o + k, none⟩ (.int .u8 ((mu (pl C F (o + k)) iv0).toNat : Nat)))) := (hO.drewN d).setCell _ _
      clear hRk hO hFr k1
      go_wp2
      go_roundw
      case rel => exact ⟨k + 1, by omega, by go_num, HO.out, HN.out⟩
      case measure => simp [intOf]; omega
    · have e : k = C := by omega
      subst e
      have R3 : RowF wr base 5 g m m (pl k (clrK F c 0)) := hRk.congr (fun t ht => by rw [ho.out, hiv.out]; exact clrK_zero F c (r := n) t (by rw [← hm.out]; exact ht))
      have T3 := T2.trans hO.turn
      have F3 := F2.only hbg hO
      have X3 := X2.only hsg hO
      have sz3 : w.heap.size < wr.heap.size := by rw [hO.size]; exact sz2
      have x0 := X3.c0
      clear hRk hO F2 T2 X2 sz2
      obtain ⟨w3, rfl⟩ : ∃ w3, w3 = wr := ⟨_, rfl⟩
      go_wp2
      go_loopw [41] (fun i w4 => ∃ l : Nat, l ≤ n ∧ i = .int .i64 l ∧ Turn g w3 w4 ∧ RowF w4 base 5 g m m (pl k (clrK F c l))) (fun i _ => n - (intOf i).toNat)
      case atStart => exact ⟨0, by omega, rfl, Turn.refl _ _, R3⟩
      case round =>
        obtain ⟨l, hl, rfl, hT, hRl⟩ := hrel
        clear R3
        by_cases hl2 : l < n
        · have hl2' : (l : Int) < (n : Int) := by omega
          by_cases hlc : l = c
          · subst hlc
            have HN : Hid (RowF wr base 5 g m m (pl k (clrK F l (l + 1)))) := by rw [clrK_skip]; exact hRl
            clear hRl
            go_wp2
            go_roundw
            case rel => exact ⟨l + 1, by omega, by go_num, hT, HN.out⟩
            case measure => simp [intOf]; omega
          · have X4 := X3.turn sz3 hsg hT
            have hlm : l * k + k ≤ m := by rw [hm.out, ← Nat.succ_mul]; exact Nat.mul_le_mul_right k hl2
            have y0 := X4.c0
            have y1 := X4.c1
            have y2 := X4.c2
            have y3 := hRl.cell (show l * k + c < m by omega)
            have e3 : pl k (clrK F c l) (l * k + c) = F l c := by rw [pl_at _ hcC]; unfold clrK; rw [if_neg hlc, if_neg (by omega)]
            rw [e3] at y3
            have F4 := F3.turn hbg hT
            have hd : l * k + k ≤ c * k ∨ c * k + k ≤ l * k := by
              rcases Nat.lt_or_gt_of_ne hlc with h | h
              · left; rw [← Nat.succ_mul]; exact Nat.mul_le_mul_right k h
              · right; rw [← Nat.succ_mul]; exact Nat.mul_le_mul_right k h
            have HS : Hid (∀ t, t < m → putAt (pl k (clrK F c l)) (l * k) k (plus (pl k (clrK F c l)) (l * k) (fun j => pl k (clrK F c l) (o + j)) (F l c)) t = pl k (clrK F c (l + 1)) t) := by
              show ∀ t, _ → _
              rw [ho.out, hm.out]; exact clrK_step (r := n) hlc
            rw [← ho.out] at hd
            have hne : ((l : Int) != (c : Int)) = true := by simp; omega
            obtain ⟨o2, ho2⟩ : ∃ o2, Hid (o2 = l * k) := ⟨_, rfl⟩
            rw [← ho2.out] at hlm y3 hd HS
            have hrow : ∀ W, Below wr.heap.size wr W → Calls Try.prog 103 #[.agg #[.int .i64 (n : Int), .int .i64 (k : Int), .slice (some ⟨g, 0, none⟩) m m], .int .i64 (l : Int)] W fun e w' => e = .returned (.slice (some ⟨g, o2, none⟩) k (m - o2)) ∧ Below wr.heap.size wr w' ∧
                w'.cell? ⟨w.heap.size, 0, none⟩ = some (.int .i64 (n : Int)) ∧ w'.cell? ⟨w.heap.size, 1, none⟩ = some (.int .i64 (k : Int)) ∧ w'.cell? ⟨w.heap.size, 2, none⟩ = some (.slice (some ⟨g, 0, none⟩) m m) ∧ w'.cell? ⟨g, o2 + c, none⟩ = some (.int .u8 ((F l c).toNat : Nat)) := by
              intro W hW
              refine (row_own rfl hl2 hm hn hC).mono ?_
              rintro e w' ⟨rfl, hb⟩
              have hB := Below.next hW hb
              exact ⟨by rw [ho2.out], hB, cells_on hB y0 y1 y2 y3⟩
            clear e3 X4
            go_wp2
            go_region_with (first | (go_at_call 103; refine (hrow _ (by first | assumption | exact (Below.refl _ _).drew | exact below_draws _ _)).mono ?_; rintro e v1 ⟨rfl, bv, z0, z1, z2, z3⟩) | (go_at_call 122; refine (addt_same (F l c) rfl (F4.turn hbg (Below.turn (by assumption) g)) hbg (hRl.later (by assumption)) hlm hcm (by omega) hd).mono ?_; rintro e v3 ⟨rfl, O5, R5⟩))
            all_goals
              have HN : Hid (Turn g w3 v3 ∧ RowF v3 base 5 g m m (pl k (clrK F c (l + 1)))) := ⟨hT.trans ((Below.turn bv g).trans O5.turn), R5.congr HS.out⟩
              clear R5 O5 hrow HS bv hRl
              go_wp2
              go_roundw
              case rel => exact ⟨l + 1, by omega, by go_num, HN.out.1, HN.out.2⟩
              case measure => simp [intOf]; omega
        · have e : l = n := by omega
          subst e
          go_wp2
          go_end0
          exact ⟨rfl, T3.trans hT, hRl⟩

end Go.Proofs.Ytchfonofjbpmaaa.Gf

/-
  PLAIN MATHEMATICS: one column of an inverse by rows' steps, where the matrix and what became of the identity stand side by side.
-/

namespace Go.Proofs.Ytchfonofjbpmaaa.Gf
set_option linter.unusedVariables false
set_option linter.unusedSimpArgs false
open Go.RowKit

theorem swapK_pl {n C k l : Nat} {W : Mx} : ∀ t, t < n * C → swapK (pl C W) (k * C) (l * C) C t = pl C (fun i j => W (sw l k i) j) t := by
  intro t ht
  have hC := pos_of_lt ht
  have hm := Nat.mod_lt t hC
  show _ = W (sw l k (t / C)) (t % C)
  unfold swapK sw
  by_cases e1 : t / C = k
  · rw [if_pos ((row_iff hC).2 e1), ← e1, row_sub, pl_at _ hm]
    by_cases e2 : t / C = l
    · rw [if_pos e2, ← e2]
    · rw [if_neg e2, if_pos rfl]
  · rw [if_neg (fun h => e1 ((row_iff hC).1 h))]
    by_cases e2 : t / C = l
    · rw [if_pos ((row_iff hC).2 e2), if_pos e2, ← e2, row_sub, pl_at _ hm]
    · rw [if_neg (fun h => e2 ((row_iff hC).1 h)), if_neg e2, if_neg e1]
      rfl

/-- the right half -/
def rt (n : Nat) (W : Mx) : Mx := fun i j => W i (n + j)
theorem gj_wide (n : Nat) (A : List UInt8) : GJ n (en n A) (wideF n A) (rt n (wideF n A)) 0 :=
  (GJ.start n (en n A)).congr (Nat.zero_le _) (fun _ _ _ _ => rfl) (fun i j _ hj => (if_pos hj).symm) (fun i j _ _ => by
    show one i j = if n + j < n then en n A i (n + j) else one i (n + j - n)
    rw [if_neg (by omega), Nat.add_sub_cancel_left])
theorem gj_clear {n k : Nat} {A F : Mx} (h : GJ n A F (rt n F) k) (hk : k < n) (hp : F k k ≠ 0) (j : Nat) (hj : j ≤ n) : GJ n A (clrK F k j) (rt n (clrK F k j)) k := by
  have hiv : iv (F k k) ≠ 0 := fun e => by
    have := mu_iv hp
    rw [e, mu_zero] at this
    cases this
  induction j with
  | zero =>
    refine (h.scale hk hiv).congr (by omega) (fun _ _ _ _ => rfl) (fun i j _ _ => ?_) (fun i j _ _ => ?_)
    · show (if i = k then mu (iv (F k k)) (F i j) else F i j) = clrK F k 0 i j
      unfold clrK
      by_cases e : i = k
      · subst e; rw [if_pos rfl, if_pos rfl, mu_comm]
      · rw [if_neg e, if_neg e, if_neg (Nat.not_lt_zero _)]
    · show (if i = k then mu (iv (F k k)) (F i (n + j)) else F i (n + j)) = clrK F k 0 i (n + j)
      unfold clrK
      by_cases e : i = k
      · subst e; rw [if_pos rfl, if_pos rfl, mu_comm]
      · rw [if_neg e, if_neg e, if_neg (Nat.not_lt_zero _)]
  | succ j ih =>
    have g := ih (by omega)
    by_cases e : j = k
    · subst e; rw [clrK_skip]; exact g
    · have key : ∀ i x, (if i = j then clrK F k j i x ^^^ mu (F j k) (clrK F k j k x) else clrK F k j i x) = clrK F k (j + 1) i x := by
        intro i x
        unfold clrK
        by_cases e2 : i = j
        · subst e2; rw [if_pos rfl, if_neg e, if_neg e, if_neg (by omega), if_pos (by omega), if_pos (by omega), mu_comm]
        · rw [if_neg e2]
          by_cases e3 : i = k
          · rw [if_pos e3, if_pos e3]
          · rw [if_neg e3, if_neg e3]
            by_cases h5 : i < j
            · rw [if_pos h5, if_pos (by omega)]
            · rw [if_neg h5, if_neg (by omega)]
      exact (g.clear (r := j) (x := F j k) (by omega) hk e).congr (by omega) (fun _ _ _ _ => rfl) (fun i x _ _ => key i x) (fun i x _ _ => key i (n + x))
theorem gj_round {n k l : Nat} {A W : Mx} (h : GJ n A W (rt n W) k) (hd : ∀ i, i < k → W i i = 1) (hkl : k ≤ l) (hl : l < n) (hp : W l k ≠ 0) :
    GJ n A (clrK (fun i j => W (sw l k i) j) k n) (rt n (clrK (fun i j => W (sw l k i) j) k n)) (k + 1) ∧ ∀ i, i < k + 1 → clrK (fun i j => W (sw l k i) j) k n i i = 1 := by
  have hswk : sw l k k = l := by
    unfold sw
    by_cases e : k = l
    · rw [if_pos e]; exact e
    · rw [if_neg e, if_pos rfl]
  have g1 : GJ n A (fun i j => W (sw l k i) j) (rt n (fun i j => W (sw l k i) j)) k := h.swap hkl hl
  obtain ⟨F, hF⟩ : ∃ F : Mx, F = fun i j => W (sw l k i) j := ⟨_, rfl⟩
  rw [← hF] at g1 ⊢
  have hpF : F k k ≠ 0 := by rw [hF]; show W (sw l k k) k ≠ 0; rw [hswk]; exact hp
  have one1 : mu (F k k) (iv (F k k)) = 1 := mu_iv hpF
  have g2 := gj_clear g1 (by omega) hpF n (Nat.le_refl _)
  have hkk : clrK F k n k k = 1 := by unfold clrK; rw [if_pos rfl, one1]
  refine ⟨g2.next (fun i hi hik => ?_) (by rw [hkk]; decide), fun i hi => ?_⟩
  · unfold clrK
    rw [if_neg hik, if_pos hi, one1, one_mu, x_self]
  · by_cases e : i = k
    · subst e; exact hkk
    · have hik : i < k := by omega
      have e1 : F k i = 0 := by
        rw [hF]
        show W (sw l k k) i = 0
        rw [hswk]
        exact h.done i hik l hl (by omega)
      have e2 : F i i = 1 := by
        rw [hF]
        show W (sw l k i) i = 1
        rw [sw_low hik hkl]
        exact hd i hik
      unfold clrK
      rw [if_neg e, if_pos (by omega), e1, e2, zero_mu, zero_mu, x_zero]

end Go.Proofs.Ytchfonofjbpmaaa.Gf

/-
  A VARIABLE BEHIND TWO OTHERS. No program's function is named here.
-/

namespace Go.Proofs.Ytchfonofjbpmaaa.Gf
set_option linter.unusedVariables false
set_option linter.unusedSimpArgs false
open Go.RowKit

theorem Free.new2 (w : World) (o o' : Obj) (cs : Array Value) (t : TypeId) : Free (((w.alloc o).alloc o').alloc (.cells cs t)) (w.heap.size + 1 + 1) := by
  have h := Free.new ((w.alloc o).alloc o') cs t
  rwa [World.size_alloc, World.size_alloc] at h

end Go.Proofs.Ytchfonofjbpmaaa.Gf

/-
  THE PROGRAM's 'Invert' BY CONTRACT.
-/


namespace Go.Proofs.Ytchfonofjbpmaaa.Gf
set_option linter.unusedVariables false
set_option linter.unusedSimpArgs false
open Go.RowKit

theorem swp_any {w : World} {base u g L C o1 o2 n c cc : Nat} {f : Nat → UInt8} (hR : RowF w base u g L C f) (h1 : o1 + n ≤ L) (h2 : o2 + n ≤ L) (hL : L ≤ 1000000) (hd : o1 = o2 ∨ o1 + n ≤ o2 ∨ o2 + n ≤ o1) :
    Calls Try.prog 105 #[.slice (some ⟨g, o1, none⟩) n c, .slice (some ⟨g, o2, none⟩) n cc] w fun e w' =>
      e = .returned (.tuple #[]) ∧ Only g w w' ∧ RowF w' base u g L C (swapK f o1 o2 n) := by
  rcases hd with e | hd
  · subst e; rw [swapK_same]; exact swp_same hR h1 hL
  · exact swp_apart hR h1 h2 hL hd
theorem Free.new1 (w : World) (o : Obj) (cs : Array Value) (t : TypeId) : Free ((w.alloc o).alloc (.cells cs t)) (w.heap.size + 1) := by
  have h := Free.new (w.alloc o) cs t
  rwa [World.size_alloc] at h

set_option maxRecDepth 100000 in
set_option maxHeartbeats 2000000 in
theorem minv_nil {va : Value} {r c : Int} {A : List UInt8} {w : World} (ha : RdM w va r c A) :
    Calls Try.prog 75 #[.pointer none, va] w (MakesErr w 1) := by
  obtain ⟨vs, rfl, h1⟩ := ha
  clear h1
  go_enter Try.func75, Try.ntmps75
  go_wp2
  go_step3
  go_wp2
  try rw [Exit.noGoto_ret]
  refine bodyPost_ret (v := .tuple #[.agg #[.int .i64 0, .int .i64 0, .slice none 0 0], .int .i64 1]) (by simp [results, Try.results75, go_sem]) rfl ⟨_, rfl, rd_none, ?_⟩
  repeat (first | exact Below.refl _ _ | apply below_lit | refine Below.setCell ?_ (by simp <;> omega) _)

set_option maxRecDepth 100000 in
set_option maxHeartbeats 2000000 in
theorem minv_bad {b : Nat} {va : Value} {r c : Int} {A : List UInt8} {w : World} (hF : FieldAt w b) (ha : RdM w va r c A) (hbad : ¬ (OkM r c A ∧ r = c)) :
    Calls Try.prog 75 #[.pointer (some ⟨b, 0, none⟩), va] w (MakesErr w 30) := by
  obtain ⟨vs, rfl, h1⟩ := ha
  clear hF
  by_cases k1 : OkM r c A
  · have k3 : (r != c) = true := by simp; intro e; exact hbad ⟨k1, e⟩
    clear hbad
    go_enter Try.func75, Try.ntmps75
    go_wp2_with fail
    go_step3
    go_wp2_with fail
    refine (mcheck_ok ⟨vs, rfl, h1.below (by repeat (first | exact Below.refl _ _ | apply below_lit))⟩ k1).mono ?_
    rintro e w2 ⟨rfl, b2⟩
    have X1 : Box w2 w.heap.size r c vs := Below.box b2 (by simp <;> omega) ((Box.new w r c vs _).alloc (by simp) _)
    have X3 : Box w2 (w.heap.size + 1) 0 0 (.slice none 0 0) := Below.box b2 (by simp <;> omega) (Box.new1 w _ 0 0 (.slice none 0 0) 74)
    have F3 : Free w2 (w.heap.size + 1) := Below.free b2 (by simp <;> omega) (Free.new1 w _ _ 74)
    have B2 : Below w.heap.size w w2 := Below.next (by repeat (first | exact Below.refl _ _ | apply below_lit)) b2
    have s2 : w.heap.size + 1 < w2.heap.size := by have := b2.size; simp at this; omega
    clear b2
    have x10 := X1.c0
    have x11 := X1.c1
    have x12 := X1.c2
    have x30 := X3.c0
    have x31 := X3.c1
    have x32 := X3.c2
    have f30 := F3.f0
    have f31 := F3.f1
    have f32 := F3.f2
    go_wp2
    try rw [Exit.noGoto_ret]
    refine bodyPost_ret (v := .tuple #[.agg #[.int .i64 0, .int .i64 0, .slice none 0 0], .int .i64 30]) (by simp [results, Try.results75, go_sem, X3.c0, X3.c1, X3.c2, F3.f0, F3.f1, F3.f2]) rfl ⟨_, rfl, rd_none, ?_⟩
    exact B2.trans ((((Only.refl _ _).setCell 0 _).setCell 1 _).setCell 2 _ |>.below (by omega))
  · clear hbad
    go_enter Try.func75, Try.ntmps75
    go_wp2_with fail
    go_step3
    go_wp2_with fail
    refine (mcheck_bad ⟨vs, rfl, h1.below (by repeat (first | exact Below.refl _ _ | apply below_lit))⟩ k1).mono ?_
    rintro e w2 ⟨rfl, b2⟩
    have X1 : Box w2 w.heap.size r c vs := Below.box b2 (by simp <;> omega) ((Box.new w r c vs _).alloc (by simp) _)
    have X3 : Box w2 (w.heap.size + 1) 0 0 (.slice none 0 0) := Below.box b2 (by simp <;> omega) (Box.new1 w _ 0 0 (.slice none 0 0) 74)
    have F3 : Free w2 (w.heap.size + 1) := Below.free b2 (by simp <;> omega) (Free.new1 w _ _ 74)
    have B2 : Below w.heap.size w w2 := Below.next (by repeat (first | exact Below.refl _ _ | apply below_lit)) b2
    have s2 : w.heap.size + 1 < w2.heap.size := by have := b2.size; simp at this; omega
    clear b2
    have x10 := X1.c0
    have x11 := X1.c1
    have x12 := X1.c2
    have x30 := X3.c0
    have x31 := X3.c1
    have x32 := X3.c2
    have f30 := F3.f0
    have f31 := F3.f1
    have f32 := F3.f2
    go_wp2
    try rw [Exit.noGoto_ret]
    refine bodyPost_ret (v := .tuple #[.agg #[.int .i64 0, .int .i64 0, .slice none 0 0], .int .i64 30]) (by simp [results, Try.results75, go_sem, X3.c0, X3.c1, X3.c2, F3.f0, F3.f1, F3.f2]) rfl ⟨_, rfl, rd_none, ?_⟩
    exact B2.trans ((((Only.refl _ _).setCell 0 _).setCell 1 _).setCell 2 _ |>.below (by omega))

/-- What a call that answers a matrix leaves, its numbers in a block of its own. -/
def MakesAt (w : World) (r c : Nat) (F : Mx) (e : Ending) (w' : World) : Prop := ∃ g M, e = .returned (.tuple #[.agg #[.int .i64 (r : Int), .int .i64 (c : Int), .slice (some ⟨g, 0, none⟩) M M], .int .i64 0]) ∧ w.heap.size ≤ g ∧ Rd w' (.slice (some ⟨g, 0, none⟩) M M) (flat r c F) ∧ Below w.heap.size w w'
theorem MakesAt.m {w w' : World} {r c : Nat} {F : Mx} {e : Ending} (h : MakesAt w r c F e w') : MakesM w r c F e w' := by
  obtain ⟨g, M, h1, _, h3, h4⟩ := h
  exact ⟨_, h1, h3, h4⟩

set_option maxRecDepth 100000 in
set_option maxHeartbeats 4000000 in
theorem minv_at {b : Nat} {va : Value} {n : Nat} {A : List UInt8} {w : World} (hF : FieldAt w b) (ha : RdM w va n n A) (k1 : OkM n n A) :
    Calls Try.prog 75 #[.pointer (some ⟨b, 0, none⟩), va] w fun e w' => (∃ V, IsInv n (en n A) V ∧ MakesAt w n n V e w') ∨ (IsSing n (en n A) ∧ MakesErr w 31 e w') := by
  obtain ⟨vs, rfl, h1⟩ := ha
  have hn : n ≤ 256 := by have := k1.2.1; omega
  go_enter Try.func75, Try.ntmps75
  go_wp2_with fail
  go_step3
  go_wp2_with fail
  refine (mcheck_ok ⟨vs, rfl, h1.below (by repeat (first | exact Below.refl _ _ | apply below_lit))⟩ k1).mono ?_
  rintro e w2 ⟨rfl, b2⟩
  have X1 : Box w2 w.heap.size n n vs := Below.box b2 (by simp <;> omega) ((Box.new w n n vs _).alloc (by simp) _)
  have X3 : Box w2 (w.heap.size + 1) 0 0 (.slice none 0 0) := Below.box b2 (by simp <;> omega) (Box.new1 w _ 0 0 (.slice none 0 0) 74)
  have F3 : Free w2 (w.heap.size + 1) := Below.free b2 (by simp <;> omega) (Free.new1 w _ _ 74)
  have B2 : Below w.heap.size w w2 := Below.next (by repeat (first | exact Below.refl _ _ | apply below_lit)) b2
  have s2 : w.heap.size + 1 < w2.heap.size := by have := b2.size; simp at this; omega
  clear b2
  have x10 := X1.c0
  have x11 := X1.c1
  have x12 := X1.c2
  go_wp2_with fail
  refine (bes_any (h1.below B2) k1).mono ?_
  rintro e w1 ⟨g, m, C, hC, hm, rfl, hg, R1, b1⟩
  have hlt := R1.lt
  have hbg : b ≠ g := by have := hF.lt; omega
  replace X1 := X1.below (by omega) b1
  replace X3 := X3.below (by omega) b1
  replace F3 := F3.below (by omega) b1
  replace B2 := Below.next B2 b1
  have hA : Below w1.heap.size w1 (w1.alloc (.cells #[.int .i64 (n : Int), .int .i64 (C : Int), .slice (some ⟨g, 0, none⟩) m m] 74)) := (Below.refl _ _).alloc (Nat.le_refl _) _
  have P1 := Box.new w1 (n : Int) (C : Int) (.slice (some ⟨g, 0, none⟩) m m) 74
  have hs1 : w2.heap.size ≤ w1.heap.size := b1.size
  replace R1 := (R1.base (show w.heap.size ≤ w2.heap.size by omega)).later hA
  replace X1 := X1.below (by omega) hA
  replace X3 := X3.below (by omega) hA
  replace F3 := F3.below (by omega) hA
  replace B2 := Below.next B2 hA
  have hms : w1.heap.size < (w1.alloc (.cells #[.int .i64 (n : Int), .int .i64 (C : Int), .slice (some ⟨g, 0, none⟩) m m] 74)).heap.size := by simp
  have hmg : w1.heap.size ≠ g := by omega
  clear hA b1 x10 x11 x12
  have x11 := X1.c1
  go_wp2
  go_step3
  go_wp2
  generalize w1.alloc (.cells #[.int .i64 (n : Int), .int .i64 (C : Int), .slice (some ⟨g, 0, none⟩) m m] 74) = w4 at *
  have hC2 : C ≤ 512 := by have := hC.out; omega
  have hnC : n ≤ C := by have := hC.out; omega
  have hmm : m ≤ 256 * 512 := by rw [hm.out]; exact Nat.mul_le_mul hn hC2
  have hF4 := hF.below B2
  clear h1 hF x11
  go_loopw [27] (fun i wr => ∃ (k : Nat) (W : Mx), k ≤ n ∧ i = .int .i64 k ∧ Turn g w4 wr ∧ RowF wr w.heap.size 5 g m m (pl C W) ∧ Hid (GJ n (en n A) W (rt n W) k ∧ ∀ i, i < k → W i i = 1)) (fun i _ => n - (intOf i).toNat)
  case atStart => exact ⟨0, wideF n A, by omega, rfl, Turn.refl _ _, R1, ⟨gj_wide n A, fun i hi => by omega⟩⟩
  case round =>
    obtain ⟨k, W, hk, rfl, hT, hRk, hgj⟩ := hrel
    clear R1
    have hs4 := hT.size
    have Y1 := X1.turn (by omega) (by omega) hT
    have Y3 := X3.turn (by omega) (by omega) hT
    have G3 := F3.turn (by omega) (by omega) hT
    have PW := P1.turn hms hmg hT
    by_cases hlt2 : k < n
    · have hlt2' : (k : Int) < (n : Int) := by omega
      obtain ⟨wo, rfl⟩ : ∃ wo, wo = wr := ⟨_, rfl⟩
      go_wp2
      go_loopw [8] (fun i wr => ∃ l : Nat, k ≤ l ∧ l ≤ n ∧ i = .int .i64 l ∧ Below wo.heap.size wo wr ∧ Hid (∀ i, k ≤ i → i < l → W i k = 0)) (fun i _ => n - (intOf i).toNat)
      case atStart => exact ⟨k, Nat.le_refl _, by omega, rfl, Below.refl _ _, (fun i h1 h2 => by omega : ∀ i, k ≤ i → i < k → W i k = 0)⟩
      case round =>
        obtain ⟨l, hkl, hl, rfl, hB5, hz⟩ := hrel
        have Z1 := Y1.below (by omega) hB5
        have z10 := Z1.c0
        have hs5 := hB5.size
        by_cases hl2 : l < n
        · have hl2' : (l : Int) < (n : Int) := by omega
          have PX := PW.below (by omega) hB5
          have y0 := PX.c0
          have y1 := PX.c1
          have y2 := PX.c2
          have hR5 := hRk.later hB5
          obtain ⟨o, ho⟩ : ∃ o, Hid (o = l * C) := ⟨_, rfl⟩
          have hom : o + C ≤ m := by rw [ho.out, hm.out, ← Nat.succ_mul]; exact Nat.mul_le_mul_right C hl2
          have hkC : k < C := by omega
          have hkC' : (k : Int) < (C : Int) := by omega
          go_wp2_with fail
          refine (row_own rfl hl2 hm hn hC2).mono ?_
          rintro e v1 ⟨rfl, bv1⟩
          rw [← ho.out]
          have hR6 := hR5.later bv1
          have c6 := hR6.cell (show o + k < m by omega)
          have e6 : pl C W (o + k) = W l k := by rw [ho.out]; exact pl_at W hkC
          rw [e6] at c6
          have hB6 := Below.next hB5 bv1
          clear hR5 bv1 e6 y0 y1 y2 z10 hB5
          by_cases hz0 : W l k = 0
          · have d0 : (((W l k).toNat : Int) != 0) = false := by rw [hz0]; rfl
            have HZ : Hid (∀ i, k ≤ i → i < l + 1 → W i k = 0) := fun i h1 h2 => by
              by_cases e : i = l
              · subst e; exact hz0
              · exact hz.out i h1 (by omega)
            clear hz hz0 hR6
            go_wp2
            go_roundw
            case rel => exact ⟨l + 1, by omega, by omega, by go_num, hB6, HZ⟩
            case measure => simp [intOf]; omega
          · have d0 : (((W l k).toNat : Int) != 0) = true := by rw [bne, eq_u8_zero]; simp [hz0]
            obtain ⟨q, hq⟩ : ∃ q, Hid (q = k * C) := ⟨_, rfl⟩
            have hqm : q + C ≤ m := by rw [hq.out, hm.out, ← Nat.succ_mul]; exact Nat.mul_le_mul_right C hlt2
            have hdis : q = o ∨ q + C ≤ o ∨ o + C ≤ q := by
              rcases Nat.lt_or_ge k l with h | h
              · right; left; rw [hq.out, ho.out, ← Nat.succ_mul]; exact Nat.mul_le_mul_right C h
              · left; rw [hq.out, ho.out, show k = l by omega]
            have hs6 := hB6.size
            have hrowK : ∀ W', Below v1.heap.size v1 W' → Calls Try.prog 103 #[.agg #[.int .i64 (n : Int), .int .i64 (C : Int), .slice (some ⟨g, 0, none⟩) m m], .int .i64 (k : Int)] W' fun e w' => e = .returned (.slice (some ⟨g, q, none⟩) C (m - q)) ∧ Below v1.heap.size v1 w' := by
              intro W' hW
              rw [hq.out]
              exact (row_own rfl hlt2 hm hn hC2).mono fun e w' he => ⟨he.1, Below.next hW he.2⟩
            have hrowL : ∀ W', Below v1.heap.size v1 W' → Calls Try.prog 103 #[.agg #[.int .i64 (n : Int), .int .i64 (C : Int), .slice (some ⟨g, 0, none⟩) m m], .int .i64 (l : Int)] W' fun e w' => e = .returned (.slice (some ⟨g, o, none⟩) C (m - o)) ∧ Below v1.heap.size v1 w' := by
              intro W' hW
              rw [ho.out]
              exact (row_own rfl hl2 hm hn hC2).mono fun e w' he => ⟨he.1, Below.next hW he.2⟩
            have P1 := PW.below (by omega) hB6
            have Q1 := P1
            have l1 : w1.heap.size < v1.heap.size := by omega
            go_wp2
            go_region_held3 (fun wx => wx.cell? ⟨w1.heap.size, 0, none⟩ = some (.int .i64 (n : Int)) ∧ wx.cell? ⟨w1.heap.size, 1, none⟩ = some (.int .i64 (C : Int)) ∧ wx.cell? ⟨w1.heap.size, 2, none⟩ = some (.slice (some ⟨g, 0, none⟩) m m)) (first | exact Box.and P1 | exact Box.and P1.drew | exact Box.and (P1.only hmg O3)) (first | (go_at_call_of 103 (Value.int IntKind.i64 (k : Int)); refine (hrowK _ (by first | assumption | exact (Below.refl _ _).drew)).mono ?_; rintro e v2 ⟨rfl, bv1⟩; replace P1 := Q1.below l1 bv1) | (go_at_call_of 103 (Value.int IntKind.i64 (l : Int)); refine (hrowL _ (by first | assumption | exact (Below.refl _ _).drew)).mono ?_; rintro e v3 ⟨rfl, bv2⟩; replace P1 := Q1.below l1 bv2) | (go_at_call 105; refine (swp_any (hR6.later bv2) hqm hom (by omega) hdis).mono ?_; rintro e v4 ⟨rfl, O3, R3⟩))
            have T7 : Turn g wo v4 := (Below.turn hB6 g).trans ((Below.turn bv2 g).trans O3.turn)
            have R7 : RowF v4 w.heap.size 5 g m m (pl C (fun i j => W (sw l k i) j)) := R3.congr (fun t ht => by
              rw [ho.out, hq.out]
              exact swapK_pl (n := n) t (by rw [← hm.out]; exact ht))
            have P7 := P1.only hmg O3
            have y0 := P7.c0
            have y1 := P7.c1
            have y2 := P7.c2
            have hswk : sw l k k = l := by
              unfold sw
              by_cases e : k = l
              · rw [if_pos e]; exact e
              · rw [if_neg e, if_pos rfl]
            have hp : (fun i j => W (sw l k i) j) k k ≠ 0 := by show W (sw l k k) k ≠ 0; rw [hswk]; exact hz0
            have hg7 := gj_round hgj.out.1 hgj.out.2 hkl hl2 hz0
            have HG7 : Hid _ := hg7
            have hF7 := hF4.turn hbg (hT.trans T7)
            clear hR6 R3 O3 bv2 bv1 hrowK hrowL Q1 P1 hB6 hg7 hgj hz c6
            go_wp2_with fail
            refine (clr_any rfl hF7 hbg R7 hm hn hC2 hlt2 hkC hp).mono ?_
            rintro e v5 ⟨rfl, T8, R8⟩
            have T9 : Hid (Turn g w4 v5) := hT.trans (T7.trans T8)
            have R9 : Hid _ := R8
            clear T8 R8 R7 T7 y0 y1 y2 hF7 hp hT
            go_wp2
            go_roundw
            case rel => exact ⟨k + 1, _, by omega, by go_num, T9.out, R9.out, HG7⟩
            case measure => simp [intOf]; omega
        · have e : l = n := by omega
          have hge : ¬ (l : Int) < (n : Int) := by omega
          have HS : Hid (IsSing n (en n A)) := hgj.out.1.sing hlt2 (fun i h1 h2 => hz.out i h1 (by omega))
          have X4 := Y3.below (by omega) hB5
          have F4 := G3.below (by omega) hB5
          have x30 := X4.c0
          have x31 := X4.c1
          have x32 := X4.c2
          have f30 := F4.f0
          have f31 := F4.f1
          have f32 := F4.f2
          clear e hz hgj hRk
          go_wp2
          try rw [Exit.noGoto_ret]
          exact bodyPost_ret (v := .tuple #[.agg #[.int .i64 0, .int .i64 0, .slice none 0 0], .int .i64 31]) (by simp [results, Try.results75, go_sem, x30, x31, x32, f30, f31, f32]) rfl (Or.inr ⟨HS.out, _, rfl, rd_none, ((B2.trans (hT.below (by omega) (by omega))).trans (hB5.mono (by omega))).trans ((((Only.refl _ _).setCell 0 _).setCell 1 _).setCell 2 _ |>.below (by omega))⟩)
    · have e : k = n := by omega
      subst e
      have HV : Hid (IsInv k (en k A) (rt k W)) := hgj.out.1.finish1 hgj.out.2
      have y0 := PW.c0
      have y1 := PW.c1
      have y2 := PW.c2
      clear hgj
      go_wp2_with fail
      refine (half_any hRk hC hm hn).mono ?_
      rintro e v1 ⟨gh, mh, hgh, rfl, hrd, bv1⟩
      have X4 := Y3.below (by omega) bv1
      have F4 := G3.below (by omega) bv1
      have hs6 := bv1.size
      have x30 := X4.c0
      have x31 := X4.c1
      have x32 := X4.c2
      have f30 := F4.f0
      have f31 := F4.f1
      have f32 := F4.f2
      have B9 := (B2.trans (hT.below (by omega) (by omega))).trans (bv1.mono (by omega))
      clear hRk y0 y1 y2
      go_wp2
      have O1 : Only (w.heap.size + 1) v1 (((v1.setCell ⟨w.heap.size + 1, 0, none⟩ (.int .i64 (k : Int))).setCell ⟨w.heap.size + 1, 1, none⟩ (.int .i64 (k : Int))).setCell ⟨w.heap.size + 1, 2, none⟩ (.slice (some ⟨gh, 0, none⟩) mh mh)) :=
        (((Only.refl _ _).setCell 0 _).setCell 1 _).setCell 2 _
      try rw [Exit.noGoto_ret]
      exact bodyPost_ret (v := .tuple #[.agg #[.int .i64 (k : Int), .int .i64 (k : Int), .slice (some ⟨gh, 0, none⟩) mh mh], .int .i64 0]) (by simp [results, Try.results75, go_sem, x30, x31, x32, f30, f31, f32]) rfl (Or.inl ⟨rt k W, HV.out, gh, mh, rfl, by omega, hrd.only (apart_block (by omega)) O1, B9.trans (O1.below (by omega))⟩)

theorem minv_ok {b : Nat} {va : Value} {n : Nat} {A : List UInt8} {w : World} (hF : FieldAt w b) (ha : RdM w va n n A) (k1 : OkM n n A) :
    Calls Try.prog 75 #[.pointer (some ⟨b, 0, none⟩), va] w fun e w' => (∃ V, IsInv n (en n A) V ∧ MakesM w n n V e w') ∨ (IsSing n (en n A) ∧ MakesErr w 31 e w') :=
  (minv_at hF ha k1).mono fun e w' h => h.imp (fun ⟨V, h1, h2⟩ => ⟨V, h1, h2.m⟩) id

end Go.Proofs.Ytchfonofjbpmaaa.Gf

/-
  THE PROGRAM's 'undoing' BY CONTRACT.
-/



namespace Go.Proofs.Ytchfonofjbpmaaa.Gf
set_option linter.unusedVariables false
set_option linter.unusedSimpArgs false
open Go.RowKit

/-- the rows that are picked -/
theorem pick_gen {k m : Nat} {h : List Bool} {i j : Nat} (hi : i < k) (hj : j < k) (hin : pl7 h i < k + m) : pickF k (flat (k + m) k (genF k)) (toI (pls7 h k)) i j = rowsF k (pl7 h) i j := by
  unfold pickF rowsF
  rw [toI_getD, pls7_getD hi, Int.toNat_natCast]
  exact en_flat (genF k) hin hj
theorem pls7_length {h : List Bool} {k : Nat} (hk : k ≤ (thr h h.length).length) : (pls7 h k).length = k := by unfold pls7; rw [List.length_take]; omega
theorem gen_inv {k m : Nat} {h : List Bool} (h2 : k + m ≤ 256) (hl : h.length = k + m) (hk : k ≤ (thr h h.length).length) : ¬ IsSing k (rowsF k (pl7 h)) :=
  gen_rows (N := k + m) h2 (by omega) (pl7 h) (fun i hi => by have := (pl7_in (h := h) (i := i) (by omega)).1; omega) (fun i j hi hj hij e => hij (pl7_inj (by omega) (by omega) e))

set_option maxRecDepth 100000 in
set_option maxHeartbeats 2000000 in
theorem eund_ok {b : Nat} {va vr : Value} {k m : Nat} {h : List Bool} {w : World} (hF : FieldAt w b) (ha : RdM w va ((k + m : Nat) : Int) (k : Int) (flat (k + m) k (genF k))) (hr : RdI w vr (toI (pls7 h k))) (h1 : 1 ≤ k) (h2 : k + m ≤ 256) (hl : h.length = k + m) (hk : k ≤ (thr h h.length).length) :
    Calls Try.prog 49 #[.pointer (some ⟨b, 0, none⟩), va, vr] w fun e w' => IsInv k (rowsF k (pl7 h)) (invF k (pl7 h)) ∧ MakesM w k k (invF k (pl7 h)) e w' := by
  have hin : Hid (∀ i, i < k → pl7 h i < k + m) := fun i hi => by have := (pl7_in (h := h) (i := i) (by omega)).1; omega
  have hZ : Hid ((toI (pls7 h k)).length = k) := by show _ = _; rw [toI_length]; exact pls7_length hk
  have hns : Hid (¬ IsSing k (rowsF k (pl7 h))) := gen_inv h2 hl hk
  have hall : Hid (AllIn (k + m) (toI (pls7 h k))) := fun i hi => by
    rw [hZ.out] at hi
    have := hin.out i hi
    rw [toI_getD, pls7_getD hi]
    omega
  clear hk
  obtain ⟨vs, rfl, hA⟩ := ha
  obtain ⟨sa, sc, rfl⟩ := hA.form
  obtain ⟨ra, rc, rfl⟩ := hr.form
  rw [hZ.out] at hr ⊢
  obtain ⟨N, hN⟩ : ∃ N, Hid (N = (flat (k + m) k (genF k)).length) := ⟨_, rfl⟩
  rw [← hN.out] at hA ⊢
  obtain ⟨s, hs⟩ : ∃ s, Hid (s = k + m) := ⟨_, rfl⟩
  have k1 : OkM (s : Int) (k : Int) (flat (k + m) k (genF k)) := okM_mk (by rw [hs.out]; exact h2) (by omega) (by rw [flat_length, hs.out])
  rw [← hs.out]
  go_enter Try.func49, Try.ntmps49
  have A0 : Below w.heap.size w ((w.alloc (.cells #[.int .i64 (s : Int), .int .i64 (k : Int), .slice sa N sc] 74)).alloc (.cells #[.int .i64 0, .int .i64 0, .slice none 0 0] 74)) := ((Below.refl _ _).alloc (Nat.le_refl _) _).alloc (by simp) _
  go_wp2_with fail
  refine (mpick_ok (r := s) (c := k) (zs := toI (pls7 h k)) ⟨_, rfl, hA.below A0⟩ (hr.below A0) k1 (by rw [hZ.out]; omega)).mono ?_
  rintro e w2 (⟨_, vp, rfl, hP, b2⟩ | ⟨hno, _⟩)
  · rw [hZ.out] at hP ⊢
    have X3 : Box w2 (w.heap.size + 1) 0 0 (.slice none 0 0) := Below.box b2 (by simp) (by have := Box.new (w.alloc (.cells #[.int .i64 (s : Int), .int .i64 (k : Int), .slice sa N sc] 74)) 0 0 (.slice none 0 0) 74; rwa [World.size_alloc] at this)
    have F3 : Free w2 (w.heap.size + 1) := Below.free b2 (by simp) (by have := Free.new (w.alloc (.cells #[.int .i64 (s : Int), .int .i64 (k : Int), .slice sa N sc] 74)) #[.int .i64 0, .int .i64 0, .slice none 0 0] 74; rwa [World.size_alloc] at this)
    have hs2 : w.heap.size + 1 < w2.heap.size := by have := b2.size; simp at this; omega
    have B2 : Below w.heap.size w w2 := Below.next A0 b2
    have hF2 := hF.below B2
    obtain ⟨pa, pc, rfl⟩ := hP.form
    rw [flat_length] at hP ⊢
    obtain ⟨M, hM⟩ : ∃ M, Hid (M = k * k) := ⟨_, rfl⟩
    rw [← hM.out] at hP ⊢
    have A2 : Below w2.heap.size w2 (w2.alloc (.cells #[.int .i64 (k : Int), .int .i64 (k : Int), .slice pa M pc] 74)) := (Below.refl _ _).alloc (Nat.le_refl _) _
    have kk : OkM (k : Int) (k : Int) (flat k k (pickF k (flat (k + m) k (genF k)) (toI (pls7 h k)))) := okM_mk (by omega) (by omega) (by rw [flat_length])
    clear hF hr hA A0 b2
    go_wp2_with fail
    refine (minv_at (n := k) (hF2.below A2) ⟨_, rfl, hP.below A2⟩ kk).mono ?_
    have cong : Hid (∀ i j, i < k → j < k → en k (flat k k (pickF k (flat (k + m) k (genF k)) (toI (pls7 h k)))) i j = rowsF k (pl7 h) i j) := fun i j hi hj => by
      rw [en_flat _ hi hj]; exact pick_gen hi hj (hin.out i hi)
    rintro e w3 (⟨V, hV, gi, I, rfl, hgi, hR3, b3⟩ | ⟨hsg, _⟩)
    · have hV' : Hid (IsInv k (rowsF k (pl7 h)) V) := hV.congr cong.out (fun _ _ _ _ => rfl)
      have B3 : Below w.heap.size w w3 := B2.trans ((Below.next A2 b3).mono (by omega))
      have X4 : Box w3 (w.heap.size + 1) 0 0 (.slice none 0 0) := Below.box (Below.next A2 b3) hs2 X3
      have F4 : Free w3 (w.heap.size + 1) := Below.free (Below.next A2 b3) hs2 F3
      have hs3 : w.heap.size + 1 < w3.heap.size := by have := (Below.next A2 b3).size; omega
      rw [invF_flat hV'.out] at hR3
      have hgi2 : gi ≠ w.heap.size + 1 := by simp at hgi; omega
      clear hV hP hF2 A2 b3 X3 F3 kk cong
      have x30 := X4.c0
      have x31 := X4.c1
      have x32 := X4.c2
      have f30 := F4.f0
      have f31 := F4.f1
      have f32 := F4.f2
      go_wp2
      have O1 : Only (w.heap.size + 1) w3 (((w3.setCell ⟨w.heap.size + 1, 0, none⟩ (.int .i64 (k : Int))).setCell ⟨w.heap.size + 1, 1, none⟩ (.int .i64 (k : Int))).setCell ⟨w.heap.size + 1, 2, none⟩ (.slice (some ⟨gi, 0, none⟩) I I)) :=
        (((Only.refl _ _).setCell 0 _).setCell 1 _).setCell 2 _
      exact bodyPost_ret (v := .tuple #[.agg #[.int .i64 (k : Int), .int .i64 (k : Int), .slice (some ⟨gi, 0, none⟩) I I], .int .i64 0]) (by simp [results, Try.results49, go_sem, x30, x31, x32, f30, f31, f32]) rfl ⟨invF_is ⟨V, hV'.out⟩, _, rfl, hR3.only (apart_block hgi2) O1, B3.trans (O1.below (by omega))⟩
    · exact absurd (hsg.congr cong.out) hns.out
  · exact absurd (by rw [hs.out]; exact hall.out) hno

end Go.Proofs.Ytchfonofjbpmaaa.Gf

/-
  THE DOCUMENT's ANSWER FOR LAYER 5 (package aumbryref05) BY CONTRACT: 'Check'.
-/

namespace Go.Proofs.Ytchfonofjbpmaaa.Gf
set_option linter.unusedVariables false
set_option linter.unusedSimpArgs false
open Go.RowKit

set_option maxRecDepth 100000 in
set_option maxHeartbeats 1000000 in
theorem rccheck_ok {k m : Int} (w : World) (h : OkC k m) : Calls Try.prog 31 #[.int .i64 k, .int .i64 m] w fun e w' => e = .returned (.int .i64 0) ∧ w' = w := by
  obtain ⟨h1, h2, h3⟩ := h
  have k1 : decide (k < 1) = false := decide_eq_false (by omega)
  have k2 : decide (k > 256) = false := decide_eq_false (by omega)
  have k3 : decide (m < 0) = false := decide_eq_false (by omega)
  have k4 : decide (m > 256) = false := decide_eq_false (by omega)
  have k5 : decide (k + m > 256) = false := decide_eq_false (by omega)
  have gw : IntKind.i64.wrap (k + m) = k + m := by rw [IntKind.wrap_i64]; omega
  go_enter Try.func31, Try.ntmps31
  go_wp2
  go_ret
  exact ⟨rfl, rfl⟩
set_option maxRecDepth 100000 in
set_option maxHeartbeats 1000000 in
theorem rccheck_bad {k m : Int} (w : World) (h : ¬ OkC k m) : Calls Try.prog 31 #[.int .i64 k, .int .i64 m] w fun e w' => e = .returned (.int .i64 50) ∧ w' = w := by
  by_cases h1 : k < 1
  · have k1 : decide (k < 1) = true := decide_eq_true h1
    clear h h1
    go_enter Try.func31, Try.ntmps31
    go_wp2
    go_ret
    exact ⟨rfl, rfl⟩
  have k1 : decide (k < 1) = false := decide_eq_false h1
  by_cases h2 : k > 256
  · have k2 : decide (k > 256) = true := decide_eq_true h2
    clear h h1 h2
    go_enter Try.func31, Try.ntmps31
    go_wp2
    go_ret
    exact ⟨rfl, rfl⟩
  have k2 : decide (k > 256) = false := decide_eq_false h2
  by_cases h3 : m < 0
  · have k3 : decide (m < 0) = true := decide_eq_true h3
    clear h h1 h2 h3
    go_enter Try.func31, Try.ntmps31
    go_wp2
    go_ret
    exact ⟨rfl, rfl⟩
  have k3 : decide (m < 0) = false := decide_eq_false h3
  by_cases h4 : m > 256
  · have k4 : decide (m > 256) = true := decide_eq_true h4
    clear h h1 h2 h3 h4
    go_enter Try.func31, Try.ntmps31
    go_wp2
    go_ret
    exact ⟨rfl, rfl⟩
  have k4 : decide (m > 256) = false := decide_eq_false h4
  have k5 : decide (k + m > 256) = true := decide_eq_true (by
    by_cases h5 : k + m ≤ 256
    · exact absurd ⟨by omega, by omega, h5⟩ h
    · omega)
  have gw : IntKind.i64.wrap (k + m) = k + m := by rw [IntKind.wrap_i64]; omega
  clear h h1 h2 h3 h4
  go_enter Try.func31, Try.ntmps31
  go_wp2
  go_ret
  exact ⟨rfl, rfl⟩

end Go.Proofs.Ytchfonofjbpmaaa.Gf

/-
  PLAIN MATHEMATICS, MORE: bits of ints that are not negative; a power by the bits of its exponent; an inverse that is sought; a logarithm that is sought. No program is named here.
-/

namespace Go.Proofs.Ytchfonofjbpmaaa.Gf
set_option linter.unusedVariables false
open Go.RowKit

theorem val_int {k : IntKind} {a b : Int} (h : a = b) : Value.int k a = .int k b := by rw [h]
theorem i64_and_nat (a b : Nat) (ha : a < 9223372036854775808) (hb : b < 9223372036854775808) : bits .and .i64 (a : Int) (b : Int) = ((a &&& b : Nat) : Int) := by
  have hx : a &&& b < 2 ^ 63 := Nat.and_lt_two_pow _ (by omega)
  show IntKind.i64.wrap ((BitVec.ofInt 64 (a : Int) &&& BitVec.ofInt 64 (b : Int)).toNat : Int) = _
  rw [BitVec.toNat_and, ofInt_u64 a (by omega), ofInt_u64 b (by omega), IntKind.wrap_i64]
  omega
theorem i64_xor_nat (a b : Nat) (ha : a < 9223372036854775808) (hb : b < 9223372036854775808) : bits .xor .i64 (a : Int) (b : Int) = ((a ^^^ b : Nat) : Int) := by
  have hx : a ^^^ b < 2 ^ 63 := Nat.xor_lt_two_pow (by omega) (by omega)
  show IntKind.i64.wrap ((BitVec.ofInt 64 (a : Int) ^^^ BitVec.ofInt 64 (b : Int)).toNat : Int) = _
  rw [BitVec.toNat_xor, ofInt_u64 a (by omega), ofInt_u64 b (by omega), IntKind.wrap_i64]
  omega

theorem pow_cast (b k : Nat) : ((b : Int) / 2 ^ k) = ((b / 2 ^ k : Nat) : Int) := by simp
theorem bit_u8 {b : Nat} (hb : b < 256) (k : Nat) : (bits .and .u8 ((b : Int) / 2 ^ k) 1 == 1) = b.testBit k := by
  have hl : b / 2 ^ k < 256 := Nat.lt_of_le_of_lt (Nat.div_le_self _ _) hb
  rw [pow_cast, show (1 : Int) = ((1 : Nat) : Int) from rfl, u8_and_nat _ _ hl (by omega), nat_mask1, Nat.testBit_eq_decide_div_mod_eq, Bool.eq_iff_iff]
  simp only [beq_iff_eq, decide_eq_true_eq]
  omega
theorem bit_i64 {n : Nat} (hn : n < 9223372036854775808) (k : Nat) : (bits .and .i64 ((n : Int) / 2 ^ k) 1 == 1) = n.testBit k := by
  have hl : n / 2 ^ k < 9223372036854775808 := Nat.lt_of_le_of_lt (Nat.div_le_self _ _) hn
  rw [pow_cast, show (1 : Int) = ((1 : Nat) : Int) from rfl, i64_and_nat _ _ hl (by omega), nat_mask1, Nat.testBit_eq_decide_div_mod_eq, Bool.eq_iff_iff]
  simp only [beq_iff_eq, decide_eq_true_eq]
  omega

theorem acc_lt {a : Nat} (b : Nat) (ha : a < 256) : ∀ k, acc k a b < 256
  | 0 => by simp [acc]
  | k + 1 => by
    rw [acc]
    refine xor_lt (acc_lt b ha k) ?_
    split
    · exact xt_lt ha k
    · omega
theorem x_hi {a k : Nat} (ha : a < 256) (h : (256 : Int) ≤ (xt k a : Nat) * 2) : bits .xor .i64 ((xt k a : Nat) * 2) 285 = ((xt (k + 1) a : Nat) : Int) := by
  have lx := xt_lt ha k
  have e : (((xt k a : Nat) : Int) * 2) = ((2 * xt k a : Nat) : Int) := by omega
  rw [e, show (285 : Int) = ((285 : Nat) : Int) from rfl, i64_xor_nat _ _ (by omega) (by omega), xt, dbl, if_neg (by omega)]
theorem x_lo {a k : Nat} (h : ((xt k a : Nat) : Int) * 2 < 256) : ((xt k a : Nat) : Int) * 2 = ((xt (k + 1) a : Nat) : Int) := by
  rw [xt, dbl, if_pos (by omega)]; omega
theorem o_hit {a b k : Nat} (ha : a < 256) (hb : b < 256) (h : (bits .and .u8 ((b : Int) / 2 ^ k) 1 == 1) = true) : bits .xor .i64 (acc k a b : Nat) (xt k a : Nat) = ((acc (k + 1) a b : Nat) : Int) := by
  rw [bit_u8 hb] at h
  have := xt_lt ha k
  have := acc_lt b ha k
  rw [i64_xor_nat _ _ (by omega) (by omega), acc, if_pos h]
theorem o_miss {a b k : Nat} (hb : b < 256) (h : (bits .and .u8 ((b : Int) / 2 ^ k) 1 == 1) = false) : ((acc k a b : Nat) : Int) = ((acc (k + 1) a b : Nat) : Int) := by
  rw [bit_u8 hb] at h
  rw [acc, if_neg (by rw [h]; decide), Nat.xor_zero]

/-! A power by the bits of its exponent. -/
def tm : Nat → Nat → Nat → Nat
  | 0, _, _ => 1
  | k + 1, a, n => if n.testBit k then mulS (tm k a n) (sq k a) else tm k a n
theorem tm_lt (a n : Nat) : ∀ k, tm k a n < 256
  | 0 => by simp [tm]
  | k + 1 => by
    rw [tm]; split
    · exact mulS_lt _ _
    · exact tm_lt a n k
theorem mod_step (n k : Nat) : n % 2 ^ (k + 1) = n % 2 ^ k + (if n.testBit k then 2 ^ k else 0) := by
  rw [Nat.mod_pow_succ, Nat.testBit_eq_decide_div_mod_eq]
  have : n / 2 ^ k % 2 = 0 ∨ n / 2 ^ k % 2 = 1 := by omega
  rcases this with h | h <;> simp [h]
theorem tm_pos {a : Nat} (h : a < 256) (h0 : a ≠ 0) (n : Nat) : ∀ k, tm k a n ≠ 0 ∧ lg (tm k a n) = lg a * (n % 2 ^ k) % 255
  | 0 => by simp [tm, lg_one, Nat.mod_one]
  | k + 1 => by
    obtain ⟨h1, h2⟩ := tm_pos h h0 n k
    rw [mod_step, tm]
    by_cases b : n.testBit k = true
    · simp only [b, if_true]
      refine ⟨mulS_ne h1 (sq_ne h0 k), ?_⟩
      rw [lg_mulS h1 (sq_ne h0 k), h2, lg_sq h h0 k, ← Nat.add_mod, ← Nat.mul_add]
    · simp only [b]
      exact ⟨h1, by simpa using h2⟩
theorem tm_zero (n : Nat) : ∀ k, tm k 0 n = if n % 2 ^ k = 0 then 1 else 0
  | 0 => by simp [tm, Nat.mod_one]
  | k + 1 => by
    rw [mod_step, tm, tm_zero n k, sq_zero, mulS_zero]
    have := Nat.two_pow_pos k
    by_cases b : n.testBit k = true
    · simp only [b, if_true]
      rw [if_neg (by omega)]
    · simp only [b]
      simp
theorem tm_powV {a n : Nat} (h : a < 256) (hn : n < 9223372036854775808) : tm 63 a n = powV a (n : Nat) := by
  have hm : n % 2 ^ 63 = n := Nat.mod_eq_of_lt (by omega)
  by_cases h0 : a = 0
  · subst h0
    rw [tm_zero, hm, powV]
    simp
  · obtain ⟨h1, h2⟩ := tm_pos h h0 n 63
    refine lg_inj (tm_lt _ _ _) (powV_lt _ _) h1 (powV_ne h0 _) ?_
    rw [h2, hm, lg_powV h0]
    have : tn (n : Int) = n % 255 := by unfold tn; omega
    rw [this, Nat.mul_mod, Nat.mul_mod (lg a) (n % 255), Nat.mod_mod]
theorem powE_nat (a n : Nat) : powE a (n : Nat) = 0 := by
  unfold powE; rw [if_neg (by omega)]
theorem powV_inv_pow {a : Nat} (h0 : a ≠ 0) (m n : Int) (h : (m + n) % 255 = 0) : powV (invS a) m = powV a n := by
  rw [powV_pos (invS_ne h0), powV_pos h0, lg_invS h0]
  congr 1
  have e : (254 * tn m) % 255 = tn n % 255 := by unfold tn; omega
  rw [Nat.mul_mod, Nat.mod_mod, ← Nat.mul_mod, Nat.mul_assoc, Nat.mul_mod, e, ← Nat.mul_mod]

/-! What is sought. -/
theorem inv_found {a k : Nat} (hk : k < 256) (h : mulS a k = 1) : a ≠ 0 ∧ k = invS a := by
  have h0 : a ≠ 0 := by rintro rfl; rw [zero_mulS] at h; omega
  refine ⟨h0, ?_⟩
  have e : mulS (invS a) (mulS a k) = k := by
    rw [mulS_assoc, mulS_comm (invS a) a, mulS_invS h0, mulS_comm, mulS_one hk]
  rw [h, mulS_one (invS_lt a)] at e
  exact e.symm
theorem inv_none {a : Nat} (h : ∀ j, 1 ≤ j → j < 256 → mulS a j ≠ 1) : a = 0 := by
  by_cases h0 : a = 0
  · exact h0
  · exact absurd (mulS_invS h0) (h _ (by have := invS_ne h0; omega) (invS_lt a))
theorem log_found {a k : Nat} (hk : k < 255) (h : pw (k % 255) = a) : a ≠ 0 ∧ k = lg a := by
  rw [Nat.mod_eq_of_lt hk] at h
  subst h
  have := pw_pos hk
  exact ⟨by omega, (lg_pw hk).symm⟩
theorem log_none {a : Nat} (ha : a < 256) (h : ∀ j, j < 255 → pw (j % 255) ≠ a) : a = 0 := by
  by_cases h0 : a = 0
  · exact h0
  · exact absurd (by rw [Nat.mod_eq_of_lt (lg_lt ha)]; exact pw_lg ha h0) (h _ (lg_lt ha))
theorem pw_next {k : Nat} (hk : k < 255) : mulS (pw (k % 255)) 2 = pw ((k + 1) % 255) := by
  rw [mulS_two (pw_lt _), next_pw hk]

end Go.Proofs.Ytchfonofjbpmaaa.Gf

/-
  THE DOCUMENT's ANSWER FOR LAYER 1 (package aumbryref01) BY CONTRACT: products.
-/

namespace Go.Proofs.Ytchfonofjbpmaaa.Gf
set_option linter.unusedVariables false
open Go.RowKit

set_option maxRecDepth 100000 in
set_option maxHeartbeats 1000000 in
theorem rmul_any (a b : Nat) (w : World) (ha : a < 256) (hb : b < 256) :
    Calls Try.prog 96 #[.int .u8 a, .int .u8 b] w fun e w' => e = .returned (.int .u8 (mulS a b : Nat)) ∧ w' = w := by
  go_enter Try.func96, Try.ntmps96
  go_wp2
  go_loop [5, 6, 7] (fun x o i => ∃ k : Nat, k ≤ 8 ∧ i = .int .i64 k ∧ x = .int .i64 (xt k a : Nat) ∧ o = .int .i64 (acc k a b : Nat)) (fun _ _ i => 8 - (intOf i).toNat)
  case atStart => exact ⟨0, by omega, rfl, rfl, rfl⟩
  case round =>
    obtain ⟨k, hk, rfl, rfl, rfl⟩ := hrel
    have lx := xt_lt ha k
    have lo := acc_lt b ha k
    by_cases hlt : k < 8
    · go_wp2
      all_goals
        go_round
        case rel => exact ⟨k + 1, by omega, by go_num, by first | exact val_int (x_hi ha ‹_›) | exact val_int (x_lo ‹_›), by first | exact val_int (o_hit ha hb ‹_›) | exact val_int (o_miss hb ‹_›)⟩
        case measure => simp [intOf]; omega
    · have e : k = 8 := by omega
      subst e
      have E : Hid (mulS a b = acc 8 a b) := mulS_acc ha hb
      go_wp2
      go_ret
      exact ⟨ret_int (by rw [E.out]), rfl⟩

theorem rmul_at {x y : Int} {w : World} (a b : Nat) (hx : x = a) (hy : y = b) (ha : a < 256) (hb : b < 256) :
    Calls Try.prog 96 #[.int .u8 x, .int .u8 y] w fun e w' => e = .returned (.int .u8 (mulS a b : Nat)) ∧ w' = w := by
  subst hx hy; exact rmul_any a b w ha hb

end Go.Proofs.Ytchfonofjbpmaaa.Gf

/-
  THE DOCUMENT's ANSWER FOR LAYER 1 (package aumbryref01) BY CONTRACT: inverses and quotients.
-/

namespace Go.Proofs.Ytchfonofjbpmaaa.Gf
set_option linter.unusedVariables false
open Go.RowKit

set_option maxRecDepth 100000 in
set_option maxHeartbeats 1000000 in
theorem rinv_any (a : Nat) (w : World) (ha : a < 256) :
    Calls Try.prog 124 #[.int .u8 a] w fun e w' => e = .returned (.tuple #[.int .u8 (invS a : Nat), .int .i64 (zE a : Nat)]) ∧ w' = w := by
  go_enter Try.func124, Try.ntmps124
  go_wp2
  go_loop [4] (fun i => ∃ k : Nat, 1 ≤ k ∧ k ≤ 256 ∧ i = .int .i64 k ∧ Hid (∀ j, 1 ≤ j → j < k → mulS a j ≠ 1)) (fun i => 256 - (intOf i).toNat)
  case atStart => exact ⟨1, by omega, by omega, rfl, fun j h1 h2 => by omega⟩
  case round =>
    obtain ⟨k, h1, hk, rfl, hno⟩ := hrel
    by_cases hlt : k < 256
    · by_cases hit : mulS a k = 1
      · obtain ⟨ha0, hinv⟩ := inv_found hlt hit
        have E1 : Hid (k = invS a) := hinv
        have E2 : Hid (a ≠ 0) := ha0
        clear hinv ha0
        go_wp2_with (go_at_call 96; go_must (refine (rmul_at a k rfl (by omega) ha hlt).mono ?_); rintro e w' ⟨rfl, rfl⟩)
        go_ret2
        refine ⟨?_, rfl⟩
        rw [zE_pos E2.out, ← E1.out]
        rfl
      · have hb : ((mulS a k : Nat) : Int) ≠ 1 := by omega
        have hb2 : (((mulS a k : Nat) : Int) == 1) = false := by simpa using hb
        clear hb
        have HN : Hid (∀ j, 1 ≤ j → j < k + 1 → mulS a j ≠ 1) := fun j g1 g2 => by
          by_cases e : j = k
          · subst e; exact hit
          · exact hno.out j g1 (by omega)
        clear hit
        go_wp2_with (go_at_call 96; go_must (refine (rmul_at a k rfl (by omega) ha hlt).mono ?_); rintro e w' ⟨rfl, rfl⟩)
        go_round
        case rel => exact ⟨k + 1, by omega, by omega, by go_num, HN⟩
        case measure => simp [intOf]; omega
    · have e : k = 256 := by omega
      subst e
      have e0 := inv_none hno.out
      subst e0
      clear hno
      go_wp2
      go_ret2
      exact ⟨rfl, rfl⟩

theorem rinv_at {x : Int} {w : World} (a : Nat) (hx : x = a) (ha : a < 256) :
    Calls Try.prog 124 #[.int .u8 x] w fun e w' => e = .returned (.tuple #[.int .u8 (invS a : Nat), .int .i64 (zE a : Nat)]) ∧ w' = w := by
  subst hx; exact rinv_any a w ha

end Go.Proofs.Ytchfonofjbpmaaa.Gf

