/-
  THE PROGRAM's 'addTimes' AND 'swap' BY CONTRACT: nothing but the row that is written turns.
-/
import Derived.Test.YthfimeddfpchpaaMxCA
import Derived.Test.YthfimeddfpchpaaPoShort1
import Derived.Deep.RegionWith
namespace Go.Proofs.Ythfimeddfpchpaa.Gf
set_option linter.unusedVariables false
set_option linter.unusedSimpArgs false
open Go.RowKit

theorem fmu_quiet {b : Nat} {w : World} (hF : FieldAt w b) (a c : UInt8) {x y : Int} (hx : x = ((a.toNat : Nat) : Int)) (hy : y = ((c.toNat : Nat) : Int)) :
    Calls Try.prog 25 #[.pointer (some ⟨b, 0, none⟩), .int .u8 x, .int .u8 y] w fun e w' => e = .returned (.int .u8 ((mu a c).toNat : Nat)) ∧ ∃ n, w' = w.drewN n := by
  rw [mu_toNat]
  exact mul_at hF a.toNat c.toNat hx hy (u8_lt a) (u8_lt c)

/-- the sum of a part of a row with a multiple of another one -/
def plus (f : Nat → UInt8) (o : Nat) (q : Nat → UInt8) (a : UInt8) (k : Nat) : UInt8 := f (o + k) ^^^ mu (q k) a
theorem plus_zero (f : Nat → UInt8) (o n : Nat) (q : Nat → UInt8) : putAt f o n (plus f o q 0) = f := by
  funext t
  unfold putAt plus
  by_cases h : o ≤ t ∧ t < o + n
  · rw [if_pos h, mu_zero, x_zero, show o + (t - o) = t by omega]
  · rw [if_neg h]

set_option maxRecDepth 100000 in
set_option maxHeartbeats 2000000 in
theorem addt_main {w : World} {base u g L C o n c cc b bt ot : Nat} {f : Nat → UInt8} (q : List UInt8) (a : UInt8) (ha : a ≠ 0) (hF : FieldAt w b) (hbg : b ≠ g) (hR : RowF w base u g L C f) (hn : q.length = n) (ho : o + n ≤ L) (hL : L ≤ 1000000)
    (hread : ∀ wr fr, Only g w wr → RowF wr base u g L C fr → (∀ t, t < o ∨ o + n ≤ t → fr t = f t) → ∀ k, k < n → wr.cell? ⟨bt, ot + k, none⟩ = some (.int .u8 ((co q k).toNat : Nat))) :
    Calls Try.prog 39 #[.pointer (some ⟨b, 0, none⟩), .slice (some ⟨g, o, none⟩) n c, .slice (some ⟨bt, ot, none⟩) n cc, .int .u8 ((a.toNat : Nat) : Int)] w fun e w' =>
      e = .returned (.tuple #[]) ∧ Only g w w' ∧ RowF w' base u g L C (putAt f o n (plus f o (co q) a)) := by
  have k0 : (((a.toNat : Nat) : Int) == 0) = false := by rw [eq_u8_zero]; exact decide_eq_false ha
  clear ha
  go_enter Try.func39, Try.ntmps39
  go_wp2
  go_loopw [13] (fun i wr => ∃ k : Nat, k ≤ n ∧ i = .int .i64 k ∧ Only g w wr ∧ RowF wr base u g L C (putAt f o k (plus f o (co q) a))) (fun i _ => n - (intOf i).toNat)
  case atStart => exact ⟨0, by omega, rfl, Only.refl _ _, by rw [putAt_zero]; exact hR⟩
  case round =>
    obtain ⟨k, hk, rfl, hO, hRk⟩ := hrel
    by_cases hlt : k < n
    · have ct := hread _ _ hO hRk (fun t ht => putAt_out (by omega)) k hlt
      obtain ⟨t, ht⟩ : ∃ t, Hid (t = o + k) := ⟨_, rfl⟩
      have htl : t < L := by have := ht.out; omega
      have c1 := hRk.cell htl
      have f1 := hRk.unfrozen t
      have e1 : putAt f o k (plus f o (co q) a) t = f t := putAt_out (by have := ht.out; omega)
      rw [e1] at c1
      have E := xor_u8 (f t) (mu (co q k) a)
      have HN : Hid (RowF (wr.setCell ⟨g, t, none⟩ (.int .u8 (((f t).toNat ^^^ (mu (co q k) a).toNat : Nat) : Int))) base u g L C (putAt f o (k + 1) (plus f o (co q) a))) := by
        rw [← UInt8.toNat_xor]
        refine hRk.store htl _ fun s => ?_
        rw [putAt_step, ht.out]; rfl
      have HO : Hid (Only g w (wr.setCell ⟨g, t, none⟩ (.int .u8 (((f t).toNat ^^^ (mu (co q k) a).toNat : Nat) : Int)))) := hO.setCell t _
      have hFr := hF.only hbg hO
      have hlt' : (k : Int) < (n : Int) := by omega
      rw [ht.out] at c1 f1 E HN HO
      clear hread hRk hO hR e1 ht htl
      go_wp2
      go_region_with ((go_at_call 25; refine (fmu_quiet (hFr.drewN _) (co q k) a rfl rfl).mono ?_; rintro e w' ⟨rfl, d, rfl⟩))
      all_goals go_wp2
      all_goals
        go_roundw
        case rel => exact ⟨k + 1, by omega, by go_num, HO.out.drewN _, HN.out.drewN _⟩
        case measure => simp [intOf]; omega
    · have e : k = n := by omega
      subst e
      clear hread
      go_wp2
      go_end0
      exact ⟨rfl, hO, hRk⟩

set_option maxRecDepth 100000 in
set_option maxHeartbeats 1000000 in
theorem addt_zero (v1 v2 v3 : Value) (w : World) :
    Calls Try.prog 39 #[v1, v2, v3, .int .u8 0] w fun e w' => e = .returned (.tuple #[]) ∧ w' = w := by
  go_enter Try.func39, Try.ntmps39
  go_wp2
  refine bodyPost_ret (results_none rfl _ _ _) rfl ?_
  exact ⟨rfl, rfl⟩
set_option maxRecDepth 100000 in
set_option maxHeartbeats 1000000 in
theorem addt_nil (v1 v2 : Value) (ao : Option Addr) (cap : Nat) (a : UInt8) (ha : a ≠ 0) (w : World) :
    Calls Try.prog 39 #[v1, v2, .slice ao 0 cap, .int .u8 ((a.toNat : Nat) : Int)] w fun e w' => e = .returned (.tuple #[]) ∧ w' = w := by
  have k0 : (((a.toNat : Nat) : Int) == 0) = false := by rw [eq_u8_zero]; exact decide_eq_false ha
  clear ha
  go_enter Try.func39, Try.ntmps39
  go_wp2
  go_loopw [13] (fun i wr => i = .int .i64 0 ∧ wr = w) (fun _ _ => 0)
  case atStart => exact ⟨rfl, rfl⟩
  case round =>
    obtain ⟨rfl, rfl⟩ := hrel
    go_wp2
    go_end0
    exact ⟨rfl, rfl⟩
/-- a multiple of a row that lies elsewhere -/
theorem addt_apart {w : World} {base u g L C o n c b : Nat} {f : Nat → UInt8} {vt : Value} {q : List UInt8} (a : UInt8) {y : Int} (hy : y = ((a.toNat : Nat) : Int)) (hF : FieldAt w b) (hbg : b ≠ g) (hR : RowF w base u g L C f) (hq : Rd w vt q) (hap : Apart g vt) (hn : q.length = n) (ho : o + n ≤ L) (hL : L ≤ 1000000) :
    Calls Try.prog 39 #[.pointer (some ⟨b, 0, none⟩), .slice (some ⟨g, o, none⟩) n c, vt, .int .u8 y] w fun e w' =>
      e = .returned (.tuple #[]) ∧ Only g w w' ∧ RowF w' base u g L C (putAt f o n (plus f o (co q) a)) := by
  subst hy
  by_cases ha : a = 0
  · subst ha
    refine (addt_zero _ _ _ w).mono ?_
    rintro e w' ⟨rfl, rfl⟩
    exact ⟨rfl, Only.refl _ _, by rw [plus_zero]; exact hR⟩
  · rcases hq with ⟨ao, cap, rfl, rfl, _⟩ | ⟨bt, ot, cap, hp0, rfl, h1, h2, h3, hpc⟩
    · simp at hn; subst hn
      refine (addt_nil _ _ ao cap a ha w).mono ?_
      rintro e w' ⟨rfl, rfl⟩
      exact ⟨rfl, Only.refl _ _, by rw [putAt_zero]; exact hR⟩
    · have hb : bt ≠ g := by
        rcases hap _ _ _ rfl with e | e
        · exact absurd (List.length_eq_zero_iff.1 e) hp0
        · exact e
      have := addt_main (w := w) (o := o) (c := c) (cc := cap) (bt := bt) (ot := ot) q a ha hF hbg hR hn ho hL (fun wr fr hO _ _ k hk => (hO.cell (p := ⟨bt, ot + k, none⟩) hb).trans (hpc k (by omega)))
      rw [hn]
      exact this
/-- .. of another part of the same one -/
theorem addt_same {w : World} {base u g L C o o2 n c cc b : Nat} {f : Nat → UInt8} (a : UInt8) {y : Int} (hy : y = ((a.toNat : Nat) : Int)) (hF : FieldAt w b) (hbg : b ≠ g) (hR : RowF w base u g L C f) (ho : o + n ≤ L) (ho2 : o2 + n ≤ L) (hL : L ≤ 1000000) (hd : o + n ≤ o2 ∨ o2 + n ≤ o) :
    Calls Try.prog 39 #[.pointer (some ⟨b, 0, none⟩), .slice (some ⟨g, o, none⟩) n c, .slice (some ⟨g, o2, none⟩) n cc, .int .u8 y] w fun e w' =>
      e = .returned (.tuple #[]) ∧ Only g w w' ∧ RowF w' base u g L C (putAt f o n (plus f o (fun k => f (o2 + k)) a)) := by
  subst hy
  by_cases ha : a = 0
  · subst ha
    refine (addt_zero _ _ _ w).mono ?_
    rintro e w' ⟨rfl, rfl⟩
    exact ⟨rfl, Only.refl _ _, by rw [plus_zero]; exact hR⟩
  · refine (addt_main (w := w) (o := o) (c := c) (cc := cc) (bt := g) (ot := o2) (n := n) (upto (fun k => f (o2 + k)) n) a ha hF hbg hR (upto_length _ _) ho hL (fun wr fr hO hRr hfr k hk => ?_)).mono ?_
    · rw [hRr.cell (show o2 + k < L by omega), hfr _ (by omega), co_upto_lt hk]
    · rintro e w' ⟨rfl, hO, hR'⟩
      refine ⟨rfl, hO, ?_⟩
      rw [putAt_congr (q' := plus f o (co (upto (fun k => f (o2 + k)) n)) a) (fun k hk => by unfold plus; rw [co_upto_lt hk])]
      exact hR'

/-- two parts that change places, the first k numbers of them -/
def swapK (f : Nat → UInt8) (o1 o2 k : Nat) (t : Nat) : UInt8 := if o1 ≤ t ∧ t < o1 + k then f (o2 + (t - o1)) else if o2 ≤ t ∧ t < o2 + k then f (o1 + (t - o2)) else f t
theorem swapK_zero (f : Nat → UInt8) (o1 o2 : Nat) : swapK f o1 o2 0 = f := by funext t; unfold swapK; rw [if_neg (by omega), if_neg (by omega)]
theorem swapK_same (f : Nat → UInt8) (o k : Nat) : swapK f o o k = f := by
  funext t; unfold swapK
  by_cases h : o ≤ t ∧ t < o + k
  · rw [if_pos h, show o + (t - o) = t by omega]
  · rw [if_neg h, if_neg h]
theorem swapK_step {f : Nat → UInt8} {o1 o2 n k : Nat} (hd : o1 + n ≤ o2 ∨ o2 + n ≤ o1) (hk : k < n) (t : Nat) : swapK f o1 o2 (k + 1) t = if t = o2 + k then f (o1 + k) else if t = o1 + k then f (o2 + k) else swapK f o1 o2 k t := by
  unfold swapK
  by_cases e2 : t = o2 + k
  · subst e2; rw [if_neg (by omega), if_pos (by omega), if_pos rfl, show o1 + (o2 + k - o2) = o1 + k by omega]
  · rw [if_neg e2]
    by_cases e1 : t = o1 + k
    · subst e1; rw [if_pos (by omega), if_pos rfl, show o2 + (o1 + k - o1) = o2 + k by omega]
    · rw [if_neg e1]
      by_cases h1 : o1 ≤ t ∧ t < o1 + k
      · rw [if_pos h1, if_pos (by omega)]
      · rw [if_neg h1, if_neg (by omega)]
        by_cases h2 : o2 ≤ t ∧ t < o2 + k
        · rw [if_pos h2, if_pos (by omega)]
        · rw [if_neg h2, if_neg (by omega)]

set_option maxRecDepth 100000 in
set_option maxHeartbeats 2000000 in
theorem swp_apart {w : World} {base u g L C o1 o2 n c cc : Nat} {f : Nat → UInt8} (hR : RowF w base u g L C f) (h1 : o1 + n ≤ L) (h2 : o2 + n ≤ L) (hL : L ≤ 1000000) (hd : o1 + n ≤ o2 ∨ o2 + n ≤ o1) :
    Calls Try.prog 42 #[.slice (some ⟨g, o1, none⟩) n c, .slice (some ⟨g, o2, none⟩) n cc] w fun e w' =>
      e = .returned (.tuple #[]) ∧ Only g w w' ∧ RowF w' base u g L C (swapK f o1 o2 n) := by
  go_enter Try.func42, Try.ntmps42
  go_wp2
  go_loopw [7] (fun i wr => ∃ k : Nat, k ≤ n ∧ i = .int .i64 k ∧ Only g w wr ∧ RowF wr base u g L C (swapK f o1 o2 k)) (fun i _ => n - (intOf i).toNat)
  case atStart => exact ⟨0, by omega, rfl, Only.refl _ _, by rw [swapK_zero]; exact hR⟩
  case round =>
    obtain ⟨k, hk, rfl, hO, hRk⟩ := hrel
    by_cases hlt : k < n
    · have c1 := hRk.cell (show o1 + k < L by omega)
      have c2 := hRk.cell (show o2 + k < L by omega)
      have f1 := hRk.unfrozen (o1 + k)
      have f2 := hRk.unfrozen (o2 + k)
      have e1 : swapK f o1 o2 k (o1 + k) = f (o1 + k) := by unfold swapK; rw [if_neg (by omega), if_neg (by omega)]
      have e2 : swapK f o1 o2 k (o2 + k) = f (o2 + k) := by unfold swapK; rw [if_neg (by omega), if_neg (by omega)]
      rw [e1] at c1
      rw [e2] at c2
      have hne : ¬ o1 + k = o2 + k := by omega
      have hne2 : ¬ o2 + k = o1 + k := by omega
      have hne3 : ¬ o1 = o2 := by omega
      have hne4 : ¬ o2 = o1 := by omega
      have HN : Hid (RowF ((wr.setCell ⟨g, o1 + k, none⟩ (.int .u8 ((f (o2 + k)).toNat : Nat))).setCell ⟨g, o2 + k, none⟩ (.int .u8 ((f (o1 + k)).toNat : Nat))) base u g L C (swapK f o1 o2 (k + 1))) := by
        refine (hRk.store (f' := fun t => if t = o1 + k then f (o2 + k) else swapK f o1 o2 k t) (show o1 + k < L by omega) _ (fun t => rfl)).store (show o2 + k < L by omega) _ fun t => ?_
        exact swapK_step hd hlt t
      have HO : Hid (Only g w ((wr.setCell ⟨g, o1 + k, none⟩ (.int .u8 ((f (o2 + k)).toNat : Nat))).setCell ⟨g, o2 + k, none⟩ (.int .u8 ((f (o1 + k)).toNat : Nat)))) := (hO.setCell _ _).setCell _ _
      have hlt' : (k : Int) < (n : Int) := by omega
      clear hRk hO hR e1 e2
      go_wp2
      go_region
      all_goals go_wp2
      all_goals
        go_roundw
        case rel => exact ⟨k + 1, by omega, by go_num, HO.out.drewN _, HN.out.drewN _⟩
        case measure => simp [intOf]; omega
    · have e : k = n := by omega
      subst e
      go_wp2
      go_end0
      exact ⟨rfl, hO, hRk⟩

set_option maxRecDepth 100000 in
set_option maxHeartbeats 2000000 in
theorem swp_same {w : World} {base u g L C o n c cc : Nat} {f : Nat → UInt8} (hR : RowF w base u g L C f) (h1 : o + n ≤ L) (hL : L ≤ 1000000) :
    Calls Try.prog 42 #[.slice (some ⟨g, o, none⟩) n c, .slice (some ⟨g, o, none⟩) n cc] w fun e w' =>
      e = .returned (.tuple #[]) ∧ Only g w w' ∧ RowF w' base u g L C f := by
  go_enter Try.func42, Try.ntmps42
  go_wp2
  go_loopw [7] (fun i wr => ∃ k : Nat, k ≤ n ∧ i = .int .i64 k ∧ Only g w wr ∧ RowF wr base u g L C f) (fun i _ => n - (intOf i).toNat)
  case atStart => exact ⟨0, by omega, rfl, Only.refl _ _, hR⟩
  case round =>
    obtain ⟨k, hk, rfl, hO, hRk⟩ := hrel
    by_cases hlt : k < n
    · have c1 := hRk.cell (show o + k < L by omega)
      have f1 := hRk.unfrozen (o + k)
      have R1 := hRk.store (f' := f) (show o + k < L by omega) (f (o + k)) (fun t => by by_cases e : t = o + k <;> simp [e])
      have c2 := R1.cell (show o + k < L by omega)
      have HN : Hid (RowF ((wr.setCell ⟨g, o + k, none⟩ (.int .u8 ((f (o + k)).toNat : Nat))).setCell ⟨g, o + k, none⟩ (.int .u8 ((f (o + k)).toNat : Nat))) base u g L C f) := by
        refine R1.store (show o + k < L by omega) _ fun t => ?_
        by_cases e : t = o + k <;> simp [e]
      have HO : Hid (Only g w ((wr.setCell ⟨g, o + k, none⟩ (.int .u8 ((f (o + k)).toNat : Nat))).setCell ⟨g, o + k, none⟩ (.int .u8 ((f (o + k)).toNat : Nat)))) := (hO.setCell _ _).setCell _ _
      have hlt' : (k : Int) < (n : Int) := by omega
      clear hRk hO hR R1
      go_wp2
      go_region
      all_goals go_wp2
      all_goals
        go_roundw
        case rel => exact ⟨k + 1, by omega, by go_num, HO.out.drewN _, HN.out.drewN _⟩
        case measure => simp [intOf]; omega
    · have e : k = n := by omega
      subst e
      go_wp2
      go_end0
      exact ⟨rfl, hO, hRk⟩

end Go.Proofs.Ythfimeddfpchpaa.Gf
