/- TEXTS JOINED: FarL, BkEvM, BkMath, BkX, BkPut, BkLin, BkInf, BkBeq, BkCA, BkCB. -/
import Derived.Test.YtddnfhfangfgeaaGreatChecked
import GoSem.Claim
import GoSem.ClaimJoined
import GoSem.ClaimMapViews
import Derived.JoinedTies
import Derived.KernelRfl
import Derived.WalkKit
import Derived.Deep.QuietTactic
import Derived.BigQuiet
import Derived.WalkLawsBesides
import Derived.WalkSpells
import Derived.OpenShut
import Derived.Deep.AppendLies
import Derived.Laws.CopyOwn
import Derived.Laws.AppendOwnNone
import Derived.Deep.RegionHeld3
import Derived.Test.YtddnfhfangfgeaaGreatRows
import Derived.Test.YtddnfhfangfgeaaGreatTome10
import Derived.Test.YtddnfhfangfgeaaGreatTome2
import Derived.Test.YtddnfhfangfgeaaGreatTome6
import Derived.Test.YtddnfhfangfgeaaGreatTome9
import Derived.Test.YtddnfhfangfgeaaGreatTome3
import Derived.Test.YtddnfhfangfgeaaGreatTome8
import Derived.Laws.BytesArg
import Derived.Shelf.Abstract
import Derived.Laws.EntriesVeiled
import Derived.Deep.RegionWith
import Derived.Test.YtddnfhfangfgeaaGreatTome1
namespace Go.Proofs.YtddnfhfangfgeaaGreat.Gf
set_option linter.unusedVariables false
set_option linter.unusedSimpArgs false
open Go.RowKit
def FarL (w : World) (base : Nat) (v : Value) (L : List (List UInt8)) : Prop := ∃ T u, Os w base T u v L
section
variable {w w' : World} {base base' : Nat} {v : Value} {L : List (List UInt8)}
theorem FarL.rs (h : FarL w base v L) : Rs w v L := by
  obtain ⟨T, u, h⟩ := h
  exact h.rs
theorem FarL.form (h : FarL w base v L) : ∃ a c, v = .slice a L.length c := h.rs.form
theorem FarL.later (h : FarL w base v L) (hb : Below w.heap.size w w') : FarL w' base v L := by
  obtain ⟨T, u, h⟩ := h
  exact ⟨T, u, h.later hb⟩
theorem FarL.rebase (h : FarL w base v L) (hb : base' ≤ base) : FarL w base' v L := by
  obtain ⟨T, u, h⟩ := h
  exact ⟨T, u, h.base hb⟩
theorem FarL.nil (w : World) (base : Nat) : FarL w base (.slice none 0 0) [] := ⟨0, 0, Os.nil _ _ _ _⟩
end
/-- rows in new memory, and an error -/
def MakesFar (w : World) (x : Int) (L : List (List UInt8)) (e : Ending) (w' : World) : Prop := ∃ v, e = .returned (.tuple #[v, .int .i64 x]) ∧ FarL w' w.heap.size v L ∧ Below w.heap.size w w'
end Go.Proofs.YtddnfhfangfgeaaGreat.Gf

namespace Go.Proofs.YtddnfhfangfgeaaGreat.Gf
set_option linter.unusedVariables false
set_option linter.unusedSimpArgs false
open Go.RowKit
/-- all of one length -/
def Even (L : List (List UInt8)) : Prop := ∀ i, i < L.length → (ro L i).length = (ro L 0).length
instance (L : List (List UInt8)) : Decidable (Even L) := inferInstanceAs (Decidable (∀ i, i < L.length → (ro L i).length = (ro L 0).length))
end Go.Proofs.YtddnfhfangfgeaaGreat.Gf

namespace Go.Proofs.YtddnfhfangfgeaaGreat.Gf
set_option linter.unusedVariables false
set_option linter.unusedSimpArgs false
open Go.RowKit
/-- a parity byte: the sum of the first j products -/
def wd (F : Mx) (L : List (List UInt8)) (i j n : Nat) : UInt8 := S j (fun l => mu (F i l) (co (ro L l) n))
theorem wd_succ (F : Mx) (L : List (List UInt8)) (i j n : Nat) : wd F L i (j + 1) n = wd F L i j n ^^^ mu (F i j) (co (ro L j) n) := rfl
/-- a parity shard -/
def parR (k : Nat) (F : Mx) (L : List (List UInt8)) (i : Nat) : List UInt8 := upto (wd F L i k) (ro L 0).length
theorem parR_length (k : Nat) (F : Mx) (L : List (List UInt8)) (i : Nat) : (parR k F L i).length = (ro L 0).length := upto_length _ _
/-- all shards of data shards -/
def encL (m k : Nat) (F : Mx) (L : List (List UInt8)) : List (List UInt8) := L ++ mkL m (parR k F L)
theorem encL_length (m k : Nat) (F : Mx) (L : List (List UInt8)) : (encL m k F L).length = L.length + m := by unfold encL; rw [List.length_append, mkL_length]
theorem upto_co (p : List UInt8) : upto (co p) p.length = p := co_ext (upto_length _ _) fun i hi => by rw [upto_length] at hi; exact co_map_range _ hi
theorem co_upto_in {f : Nat → UInt8} {k i : Nat} (h : i < k) : co (upto f k) i = f i := co_map_range f h
end Go.Proofs.YtddnfhfangfgeaaGreat.Gf

namespace Go.Proofs.YtddnfhfangfgeaaGreat.Gf
set_option linter.unusedVariables false
set_option linter.unusedSimpArgs false
open Go.RowKit
instance (k m : Int) : Decidable (OkC k m) := inferInstanceAs (Decidable (1 ≤ k ∧ 0 ≤ m ∧ k + m ≤ 256))
end Go.Proofs.YtddnfhfangfgeaaGreat.Gf

namespace Go.Proofs.YtddnfhfangfgeaaGreat.Gf
set_option linter.unusedVariables false
set_option linter.unusedSimpArgs false
open Go.RowKit
theorem Only.grown {g : Nat} {w w' : World} (O : Only g w w') : w.grownBy w' (some g) :=
  ⟨O.os, O.tape, O.output, by rw [O.size]; exact Nat.le_refl _, fun q _ hq => O.block q (fun e => hq (by rw [e]))⟩
/-- 'make' of shards: none of them -/
theorem Os.blank {w : World} {base T u G n : Nat} {cs : List Value} (hv : w.ownsRow base T 1 (.slice (some ⟨G, 0, none⟩) n n) n cs) (hc : ∀ y ∈ cs, y = .slice none 0 0) : Os w base T u (.slice (some ⟨G, 0, none⟩) n n) (mkL n (fun _ => [])) := by
  have hl : cs.length = n := by have := hv.1; omega
  refine ⟨cs, by rw [mkL_length]; exact hv, ⟨fun i x hx => ?_, fun i j x y hx _ _ => ?_, fun i x hx => ?_⟩⟩
  · have hi : i < n := by
      rcases Nat.lt_or_ge i cs.length with h | h
      · omega
      · rw [List.getElem?_eq_none h] at hx; cases hx
    rw [ro_mkL hi, hc x (List.mem_of_getElem? hx)]
    exact World.ownsRow_nil _ _ _ _
  · left; rw [hc x (List.mem_of_getElem? hx)]; rfl
  · left; rw [hc x (List.mem_of_getElem? hx)]; rfl
end Go.Proofs.YtddnfhfangfgeaaGreat.Gf

namespace Go.Proofs.YtddnfhfangfgeaaGreat.Gf
set_option linter.unusedVariables false
set_option linter.unusedSimpArgs false
open Go.RowKit
theorem enc_row_lt {m k : Nat} {F : Mx} {L : List (List UInt8)} {i : Nat} (h : i < L.length) : ro (encL m k F L) i = ro L i := ro_append_left h
theorem enc_row_ge {m k : Nat} {F : Mx} {L : List (List UInt8)} {i : Nat} (h : i < m) : ro (encL m k F L) (L.length + i) = parR k F L i := by
  unfold encL
  rw [ro_append_right (by omega), show L.length + i - L.length = i by omega, ro_mkL h]
theorem enc_row_ge' {m k : Nat} {F : Mx} {L : List (List UInt8)} {i : Nat} (h : L.length ≤ i) (h2 : i < L.length + m) : ro (encL m k F L) i = parR k F L (i - L.length) := by
  have := enc_row_ge (m := m) (k := k) (F := F) (L := L) (i := i - L.length) (by omega)
  rwa [show L.length + (i - L.length) = i by omega] at this
theorem enc_len {m k : Nat} {F : Mx} {L : List (List UInt8)} (hE : Even L) {i : Nat} (h : i < L.length + m) : (ro (encL m k F L) i).length = (ro L 0).length := by
  by_cases e : i < L.length
  · rw [enc_row_lt e]; exact hE i e
  · rw [enc_row_ge' (by omega) h, parR_length]
end Go.Proofs.YtddnfhfangfgeaaGreat.Gf

namespace Go.Proofs.YtddnfhfangfgeaaGreat.Gf
set_option linter.unusedVariables false
set_option linter.unusedSimpArgs false
open Go.RowKit
theorem info_shard : (Tryz.prog.info? 36).map (fun i => (i.zero, i.size, i.bytes)) = some (some (.slice none 0 0), 1, 24) := by kernel_rfl
theorem take_next {M : List (List UInt8)} {k : Nat} (h : k < M.length) : M.take (k + 1) = M.take k ++ [ro M k] := by
  rw [List.take_add_one, ro_some h]; rfl
end Go.Proofs.YtddnfhfangfgeaaGreat.Gf

namespace Go.Proofs.YtddnfhfangfgeaaGreat.Gf
set_option linter.unusedVariables false
set_option linter.unusedSimpArgs false
open Go.RowKit
theorem conv_str {w : World} {v : Value} {p : List UInt8} (h : Rd w v p) : Sem.run Tryz.prog (convert 36 9 v) w = .ok (.string ⟨p.toArray⟩) w := by
  rcases h with ⟨a, c, rfl, rfl, _⟩ | ⟨b, off, cap, hp0, rfl, h1, h2, h3, hpc⟩
  · rcases a with _ | a
    · kernel_rfl
    · kernel_rfl
  · rw [run_convert_bytes_arg (P := Tryz.prog) w 36 5 Tryz.underlying36 Tryz.underlying5 b off p.length cap (p.map fun x => ((x.toNat : Nat) : Int)) (by simp) (fun i hi => by rw [hpc i hi, co_lt hi]; simp [List.getD, hi]) 9 Tryz.underlying9]
    unfold strOfNums
    congr 4
    rw [List.map_map]
    conv => rhs; rw [← List.map_id p]
    apply List.map_congr_left
    intro b _
    simp
set_option maxRecDepth 100000 in
set_option maxHeartbeats 1000000 in
theorem beq_any {va vb : Value} {p q : List UInt8} {w : World} (hp : Rd w va p) (hq : Rd w vb q) : Calls Tryz.prog 190 #[va, vb] w fun e w' => e = .returned (.bool (sameB p q)) ∧ w' = w := by
  have h1 := conv_str hp
  have h2 := conv_str hq
  obtain ⟨a, c, rfl⟩ := hp.form
  obtain ⟨a', c', rfl⟩ := hq.form
  clear hp hq
  go_enter Tryz.func190, Tryz.ntmps190
  go_wp2
  go_ret
  have e : (p == q) = sameB p q := by unfold sameB; rw [Bool.eq_iff_iff]; simp
  exact ⟨congrArg (fun b => Ending.returned (.bool b)) e, rfl⟩
end Go.Proofs.YtddnfhfangfgeaaGreat.Gf

namespace Go.Proofs.YtddnfhfangfgeaaGreat.Gf
set_option linter.unusedVariables false
set_option linter.unusedSimpArgs false
open Go.RowKit
/-- a row and a multiple of a shard, for the first k places -/
def addR (f : Nat → UInt8) (a : UInt8) (q : List UInt8) (k : Nat) (t : Nat) : UInt8 := if t < k then f t ^^^ mu a (co q t) else f t
theorem addR_zero (f : Nat → UInt8) (a : UInt8) (q : List UInt8) : addR f a q 0 = f := by funext t; exact if_neg (by omega)
theorem addR_step (f : Nat → UInt8) (a : UInt8) (q : List UInt8) (k t : Nat) : addR f a q (k + 1) t = if t = k then f k ^^^ mu a (co q k) else addR f a q k t := by
  unfold addR
  by_cases e : t = k
  · subst e; rw [if_pos (by omega), if_pos rfl]
  · rw [if_neg e]
    by_cases h : t < k
    · rw [if_pos h, if_pos (by omega)]
    · rw [if_neg h, if_neg (by omega)]
set_option maxRecDepth 100000 in
set_option maxHeartbeats 2000000 in
/-- what adds a shard, times a number, to a row: fb its captured variable -/
theorem add1_any {w : World} {base u g n c b fb : Nat} {f : Nat → UInt8} {vq : Value} {q : List UInt8} (a : UInt8) (hF : FieldAt w b) (hbg : b ≠ g) (cf : w.cell? ⟨fb, 0, none⟩ = some (.pointer (some ⟨b, 0, none⟩))) (hfg : fb ≠ g) (hfl : fb < w.heap.size)
    (hR : RowF w base u g n c f) (hq : Rd w vq q) (hap : Apart g vq) (hn : q.length = n) (hL : n ≤ 1000000) {y : Int} (hy : y = ((a.toNat : Nat) : Int)) :
    Calls Tryz.prog 187 #[.slice (some ⟨g, 0, none⟩) n c, .int .u8 y, vq, .pointer (some ⟨fb, 0, none⟩)] w fun e w' => e = .returned (.tuple #[]) ∧ Only g w w' ∧ RowF w' base u g n c (addR f a q n) := by
  subst hy
  obtain ⟨qa, qc, rfl⟩ := hq.form
  rw [hn]
  go_enter Tryz.func187, Tryz.ntmps187
  go_wp2
  go_loopw [11] (fun i wr => ∃ k : Nat, k ≤ n ∧ i = .int .i64 k ∧ Only g w wr ∧ RowF wr base u g n c (addR f a q k)) (fun i _ => n - (intOf i).toNat)
  case atStart => exact ⟨0, by omega, rfl, Only.refl _ _, by rw [addR_zero]; exact hR⟩
  case round =>
    obtain ⟨k, hk, rfl, hO, hRk⟩ := hrel
    by_cases hlt : k < n
    · have hq2 := hq.only hap hO
      rw [hn] at hq2
      obtain ⟨qb, qo, rfl, _, ct⟩ := hq2.byte (i := k) (by omega)
      have c1 := hRk.cell hlt
      have f1 := hRk.unfrozen k
      have cf2 := (hO.cell (p := ⟨fb, 0, none⟩) hfg).trans cf
      have e1 : addR f a q k k = f k := if_neg (by omega)
      rw [e1] at c1
      have E := xor_u8 (f k) (mu a (co q k))
      have HN : Hid (RowF (wr.setCell ⟨g, k, none⟩ (.int .u8 (((f k).toNat ^^^ (mu a (co q k)).toNat : Nat) : Int))) base u g n c (addR f a q (k + 1))) := by
        rw [← UInt8.toNat_xor]
        exact hRk.store hlt _ fun s => addR_step _ _ _ _ _
      have HO : Hid (Only g w (wr.setCell ⟨g, k, none⟩ (.int .u8 (((f k).toNat ^^^ (mu a (co q k)).toNat : Nat) : Int)))) := hO.setCell k _
      have hFr := hF.only hbg hO
      have hlt' : (k : Int) < (n : Int) := by omega
      clear hRk hO hR e1 hq hap hn hq2 hF cf
      go_wp2
      go_region_with ((go_at_call 188; refine (fmu_quiet (hFr.drewN _) a (co q k) rfl rfl).mono ?_; rintro e w' ⟨rfl, d, rfl⟩))
      all_goals go_wp2
      all_goals
        go_roundw
        case rel => exact ⟨k + 1, by omega, by go_num, HO.out.drewN _, HN.out.drewN _⟩
        case measure => simp [intOf]; omega
    · have e : k = n := by omega
      subst e
      have hge : ¬ (k : Int) < (k : Int) := by omega
      clear hq
      go_wp2
      go_end0
      exact ⟨rfl, hO, hRk⟩
set_option maxRecDepth 100000 in
set_option maxHeartbeats 1000000 in
theorem add0_any {b : Nat} (w : World) : Calls Tryz.prog 162 #[.pointer (some ⟨b, 0, none⟩)] w fun e w' => ∃ fb, e = .returned (.func (.func 187) #[] #[.pointer (some ⟨fb, 0, none⟩)]) ∧ w'.cell? ⟨fb, 0, none⟩ = some (.pointer (some ⟨b, 0, none⟩)) ∧ w.heap.size ≤ fb ∧ fb < w'.heap.size ∧ Below w.heap.size w w' := by
  go_enter Tryz.func162, Tryz.ntmps162
  go_wp2
  go_ret
  exact ⟨_, rfl, by simp, by omega, by simp, (Below.refl _ _).alloc (Nat.le_refl _) _⟩
/-- 'copy' into a row of the call's own -/
theorem run_copy_rd {P : Program} {w : World} (dT sT ty : TypeId) (elem : TypeId) (hu : P.underlying dT = some (.slice elem)) (hsz : (P.info? elem).map (·.size) = some 1)
    {g off n dl dCap : Nat} {va : Value} {p : List UInt8} {base e L : Nat} {f : Nat → UInt8} (hr : Rd w va p) (hn : p.length = n) (hdl : n ≤ dl) (hR : RowF w base e g L L f) (hl : off + n ≤ L) :
    ∃ w', Sem.run P (Builtin.copy_ #[dT, sT] ty #[.slice (some ⟨g, off, none⟩) dl dCap, va]) w = .ok (goInt n) w' ∧ Only g w w' ∧ RowF w' base e g L L (putAt f off n (co p)) := by
  subst hn
  obtain ⟨hg, hm⟩ := hR.heap rfl
  have hlt := hR.lt
  rcases hr with ⟨ao, cap, rfl, rfl, _⟩ | ⟨b, so, cap, hp0, rfl, h1, h2, h3, hpc⟩
  · have hrun := run_copy_none (P := P) w dT sT ty elem (some ⟨g, off, none⟩) ao dl dCap 0 cap hu hsz (Nat.zero_min _)
    exact ⟨w, hrun, Only.refl _ _, by rw [List.length_nil, putAt_zero]; exact hR⟩
  · have hrun := run_copy_row (P := P) w dT sT ty elem g off dl dCap ⟨b, so, none⟩ p.length cap ((upto f L).map vb).toArray e (p.map vb) hu hsz hg (by rw [List.length_map]; exact (Nat.min_eq_left hdl).symm) (by have := news_of (k := p.length) hpc; rwa [List.take_length] at this) (by simp [upto_length]; exact hl) (vb_one p)
    refine ⟨_, by simpa using hrun, only_setRow _ _ _, RowF.of_heap hlt.1 hm ?_⟩
    rw [← splice_upto hl]
    simpa [splice] using setRow_heap w g _ _ e _ hg
set_option maxRecDepth 100000 in
set_option maxHeartbeats 1000000 in
theorem cop_any {v : Value} {p : List UInt8} {w : World} (hp : Rd w v p) (hl : p.length ≤ 100000) : Calls Tryz.prog 161 #[v] w fun e w' => ∃ g, e = .returned (.slice (some ⟨g, 0, none⟩) p.length p.length) ∧ w.heap.size ≤ g ∧ RowF w' w.heap.size 5 g p.length p.length (co p) ∧ Below w.heap.size w w' := by
  obtain ⟨i0, hi, hz0, hz1, hz2⟩ := info_parts info_u8
  obtain ⟨qa, qc, rfl⟩ := hp.form
  obtain ⟨n, hn⟩ : ∃ n, Hid (n = p.length) := ⟨_, rfl⟩
  rw [← hn.out] at hl hp ⊢
  go_enter Tryz.func161, Tryz.ntmps161
  go_wp2_with (at_make; go_loud (refine wpList_make_full _ rfl (.tmp 5) (.tmp 5) 36 rfl w.heap.size 5 i0 (.int .u8 0) 1 Tryz.underlying36 hi hz0 hz1 _ _ _ _ n rfl rfl (by omega) (by omega) (by rw [hz2]; omega) (by unfold maxLen; omega) (by simp) ?_); intro w1 hown1 hgrow1; have R1 := RowF.made hown1; clear hown1)
  have b1 : Below w.heap.size w w1 := (Below.refl _ _).grown hgrow1 (Nat.le_refl _) (fun k hk => by cases hk)
  clear hgrow1
  have hg1 := R1.lt
  generalize hgg : w.heap.size = g at *
  obtain ⟨w2, hrun, hO, hR⟩ := run_copy_rd (P := Tryz.prog) 36 36 3 5 Tryz.underlying36 (by rw [hi]; simp [hz1]) (hp.below (by rw [hgg]; exact b1)) hn.out.symm (Nat.le_refl n) R1 (off := 0) (dCap := n) (by omega)
  rw [hrun]
  have HR : Hid (RowF w2 g 5 g n n (co p)) := hR.congr fun t ht => by unfold putAt; rw [if_pos (by omega), Nat.sub_zero]
  have HO : Hid (Only g w1 w2) := hO
  clear hR hO R1 hp hrun
  go_wp2
  go_ret
  subst hgg
  exact ⟨_, rfl, Nat.le_refl _, HR.out, b1.trans (HO.out.below (Nat.le_refl _))⟩
end Go.Proofs.YtddnfhfangfgeaaGreat.Gf

namespace Go.Proofs.YtddnfhfangfgeaaGreat.Gf
set_option linter.unusedVariables false
set_option linter.unusedSimpArgs false
open Go.RowKit
theorem OwnP.row {w : World} {base base' u g : Nat} {p : List UInt8} (h : RowF w base u g p.length p.length (co p)) (hb : base' ≤ base) : OwnP w base' u (.slice (some ⟨g, 0, none⟩) p.length p.length) p := by
  have := h.base hb
  unfold RowF at this
  rw [upto_co] at this
  exact this
theorem OwnP.rowF {w : World} {base u g n : Nat} {f : Nat → UInt8} (h : RowF w base u g n n f) : OwnP w base u (.slice (some ⟨g, 0, none⟩) n n) (upto f n) := by
  unfold OwnP
  rw [upto_length]
  exact h
set_option maxRecDepth 100000 in
set_option maxHeartbeats 4000000 in
theorem encd_far {w : World} {b : Nat} {vs v : Value} {L : List (List UInt8)} (m k : Nat) (F : Mx) (hF : FieldAt w b) (hA : Rd w vs (flat m k F)) (h1 : 1 ≤ k) (h2 : k + m ≤ 256) (h : Rs w v L) (hL : L.length = k) (hE : Even L) (hS : Small L) {x y : Int} (hx : x = (m : Int)) (hy : y = (k : Int)) :
    Calls Tryz.prog 130 #[.pointer (some ⟨b, 0, none⟩), .agg #[.int .i64 x, .int .i64 y, vs], v] w fun e w' => ∃ v', e = .returned v' ∧ FarL w' w.heap.size v' (encL m k F L) ∧ Below w.heap.size w w' := by
  subst hx hy
  obtain ⟨i0, hi, hz0, hz1, hz2⟩ := info_parts info_u8
  obtain ⟨i1, hj, hy0, hy1, hy2⟩ := info_parts info_shard
  obtain ⟨db, doff, dc, rfl, hdb, hdc, hdm⟩ := h.somewhere (by omega)
  have hLh : Hid (L.length = k) := hL
  rw [hL] at h ⊢
  clear hL
  obtain ⟨N, hN⟩ : ∃ N, Hid (N = (flat m k F).length) := ⟨_, rfl⟩
  obtain ⟨va, vc, rfl⟩ := hA.form
  rw [← hN.out] at hA ⊢
  have hNm : Hid (N = m * k) := by show _ = _; rw [hN.out, flat_length]
  have B0 : Below w.heap.size w (w.alloc (.cells #[.int .i64 (m : Int), .int .i64 (k : Int), .slice va N vc] 148)) := (Below.refl _ _).alloc (Nat.le_refl _) _
  have X0 := Box.new w (m : Int) (k : Int) (.slice va N vc) 148
  have s0 : (w.alloc (.cells #[.int .i64 (m : Int), .int .i64 (k : Int), .slice va N vc] 148)).heap.size = w.heap.size + 1 := by simp
  have gk : (k : Int) + (m : Int) = ((k + m : Nat) : Int) := by omega
  have gw : IntKind.i64.wrap ((k + m : Nat) : Int) = ((k + m : Nat) : Int) := by rw [IntKind.wrap_i64]; omega
  obtain ⟨K, hK⟩ : ∃ K, Hid (K = k + m) := ⟨_, rfl⟩
  have hK2 : K ≤ 256 := by have := hK.out; omega
  rw [← hK.out] at gk gw
  go_enter Tryz.func130, Tryz.ntmps130
  go_wp2_with (at_make; go_loud (refine wpList_make_own _ rfl _ (.tmp 19) 106 rfl (w.alloc (.cells #[.int .i64 (m : Int), .int .i64 (k : Int), .slice va N vc] 148)).heap.size 36 i1 (.slice none 0 0) 1 Tryz.underlying106 hj hy0 hy1 _ _ _ K rfl rfl rfl (by rw [hy2]; omega) (by unfold maxLen; omega) (Nat.le_refl _) ?_); intro w1 hown1 hgrow1)
  generalize w.alloc (.cells #[.int .i64 (m : Int), .int .i64 (k : Int), .slice va N vc] 148) = w0 at *
  have HO1 : Hid (Os w1 w0.heap.size 36 5 (.slice (some ⟨w0.heap.size, 0, none⟩) 0 K) []) := ⟨[], hown1, RowsO.nil _ _ _ _ _⟩
  have HB1 : Hid (Below w0.heap.size w0 w1) := (Below.refl _ _).grown hgrow1 (Nat.le_refl _) (fun q hq => by cases hq)
  clear hown1 hgrow1
  obtain ⟨B, hBB⟩ : ∃ B, Hid (B = w0.heap.size) := ⟨_, rfl⟩
  have hsB : w.heap.size < B := by rw [hBB.out]; omega
  rw [← hBB.out] at HO1
  rw [← s0, ← hBB.out]
  have h0 := h.below B0
  have hA0 := hA.below B0
  have hF0 := hF.below B0
  rw [← hBB.out] at HB1
  have X1 : ∀ wr, Below B w0 wr → Box wr w.heap.size (m : Int) (k : Int) (.slice va N vc) := fun wr hb => X0.below hsB hb
  have D1 : ∀ wr, Below B w0 wr → Rs wr (.slice (some ⟨db, doff, none⟩) k dc) L := fun wr hb => h0.below (by rw [← hBB.out]; exact hb)
  have A1 : ∀ wr, Below B w0 wr → Rd wr (.slice va N vc) (flat m k F) := fun wr hb => hA0.below (by rw [← hBB.out]; exact hb)
  have F1 : ∀ wr, Below B w0 wr → FieldAt wr b := fun wr hb => hF0.below (by rw [← hBB.out]; exact hb)
  have HX : Hid _ := X1
  have HD : Hid _ := D1
  have HA : Hid _ := A1
  have HF : Hid _ := F1
  have HB0 : Hid (Below w.heap.size w w0) := B0
  have hbB : b < B := by have := hF.lt; omega
  have hdB : db < B := by omega
  have hsz : B ≤ w1.heap.size := by rw [hBB.out]; exact HB1.out.size
  clear X1 D1 A1 F1 h0 hA0 hF0 h hA hF X0 B0 s0
  have hS1 := hS.1
  have hSk : Hid (∀ i, (ro L i).length ≤ 300) := hS.2
  have hEv : Hid (Even L) := hE
  clear hS hE hN
  go_wp2
  go_loopw [7, 23] (fun o i wr => ∃ c : Nat, c ≤ k ∧ i = .int .i64 c ∧ Os wr B 36 5 o (L.take c) ∧ Below B w0 wr) (fun _ i _ => k - (intOf i).toNat)
  case atStart => exact ⟨0, by omega, rfl, HO1.out, HB1.out⟩
  case round =>
    obtain ⟨c, hc, rfl, hO, hB⟩ := hrel
    clear HO1 HB1
    have hszr : B ≤ wr.heap.size := by rw [hBB.out]; exact hB.size
    by_cases hlt : c < k
    · have hlL : c < L.length := by rw [hLh.out]; exact hlt
      obtain ⟨xa, xc, c1, r1⟩ := (HD.out _ hB).get hlL
      have hlt' : (c : Int) < (k : Int) := by omega
      have hln := hSk.out c
      obtain ⟨p, hp⟩ : ∃ p, Hid (p = ro L c) := ⟨_, rfl⟩
      have HT : Hid (L.take (c + 1) = L.take c ++ [p]) := by show _ = _; rw [hp.out]; exact take_next hlL
      have HL : Hid ((L.take c).length = c) := by show _ = _; rw [List.length_take]; omega
      rw [← hp.out] at c1 r1 hln
      obtain ⟨av, cv, ev⟩ := hO.form
      rw [HL.out] at ev
      subst ev
      have hdw : db < wr.heap.size := by omega
      clear hp
      go_wp2_with fail
      refine (cop_any r1 (by omega)).mono ?_
      rintro e w5 ⟨g, rfl, hg, hR, b5⟩
      go_wp2_with (at_builtin; go_loud (refine wpList_append_os rfl (.tmp 27) (.tmp 30) 106 rfl B 36 i1 Tryz.underlying106 hj hy0 hy1 hy2 5 (.slice av c cv) (L.take c) rfl hO b5 (.slice (some ⟨g, 0, none⟩) p.length p.length) p (OwnP.row hR hszr) (by intro q hq; cases hq; exact hg) _ 1 rfl (by rw [HL.out]; omega) hszr ?_); intro v' w6 hv6 hb6 _ _)
      rw [← HT.out] at hv6
      have HBn : Hid (Below B w0 w6) := hB.trans hb6
      have HOn : Hid (Os w6 B 36 5 v' (L.take (c + 1))) := hv6
      clear hB hb6 hv6 hO hR b5 c1 r1
      go_roundw
      case rel => exact ⟨c + 1, by omega, by go_num, HOn.out, HBn.out⟩
      case measure => simp [intOf]; omega
    · have hge : ¬ (c : Int) < (k : Int) := by omega
      have e : L.take c = L := by rw [show c = L.length by rw [hLh.out]; omega, List.take_length]
      rw [e] at hO
      clear e
      go_wp2_with fail
      refine (add0_any _).mono ?_
      rintro e w6 ⟨fb, rfl, cf, hfb, hfl, b6⟩
      have hO6 := hO.later b6
      have hB6 : Below B w0 w6 := hB.trans (b6.mono hszr)
      have ho6 : Hid (u7.ownBlock ≠ some fb) := by
        obtain ⟨vals, hv, _⟩ := hO
        intro e
        have := (World.ownsRow.lt hv _ e).2
        omega
      clear hO hB b6
      have x0 := (HX.out _ hB6).c0
      go_wp2
      clear x0
      go_loopw [7, 37] (fun o i wr => ∃ r : Nat, r ≤ m ∧ i = .int .i64 r ∧ Os wr B 36 5 o (L ++ mkL r (parR k F L)) ∧ Below B w0 wr ∧ wr.cell? ⟨fb, 0, none⟩ = some (.pointer (some ⟨b, 0, none⟩)) ∧ fb < wr.heap.size ∧ o.ownBlock ≠ some fb) (fun _ i _ => m - (intOf i).toNat)
      case atStart => exact ⟨0, by omega, rfl, by simpa [mkL] using hO6, hB6, cf, hfl, ho6.out⟩
      case round =>
        clear hO6 hB6 cf hfl ho6 hszr hfb
        obtain ⟨r, hr, rfl, hO, hB, cf, hfl, hof⟩ := hrel
        obtain ⟨wo, hwo⟩ : ∃ wo, wo = wr := ⟨_, rfl⟩
        subst hwo
        have hszr : B ≤ wo.heap.size := by rw [hBB.out]; exact hB.size
        by_cases hlt2 : r < m
        · have hlt2' : (r : Int) < (m : Int) := by omega
          have h0L : 0 < L.length := by rw [hLh.out]; omega
          obtain ⟨ya, yc, c0, r0⟩ := (HD.out _ hB).get h0L
          rw [Nat.add_zero] at c0
          obtain ⟨n, hn⟩ : ∃ n, Hid (n = (ro L 0).length) := ⟨_, rfl⟩
          have hn3 : n ≤ 300 := by rw [hn.out]; exact hSk.out 0
          rw [← hn.out] at c0 r0
          have h0k : (0 : Int) < (k : Int) := by omega
          have hdw : db < wo.heap.size := by omega
          have hbw : b < wo.heap.size := by omega
          have hBg : B ≤ wo.heap.size := hszr
          have HLen : Hid ((L ++ mkL r (parR k F L)).length = k + r) := by show _ = _; rw [List.length_append, mkL_length, hLh.out]
          obtain ⟨av, cv, ev⟩ := hO.form
          rw [HLen.out] at ev
          subst ev
          clear r0
          go_wp2_with (at_make; go_loud (refine wpList_make_full _ rfl (.tmp 43) (.tmp 43) 36 rfl B 5 i0 (.int .u8 0) 1 Tryz.underlying36 hi hz0 hz1 _ _ _ _ n rfl rfl (by omega) (by omega) (by rw [hz2]; omega) (by unfold maxLen; omega) hszr ?_); intro w7 hown7 hgrow7)
          have R7 := RowF.made hown7
          have b7 : Below wo.heap.size wo w7 := (Below.refl _ _).grown hgrow7 (Nat.le_refl _) (fun q hq => by cases hq)
          clear hown7 hgrow7 c0
          obtain ⟨g, hg⟩ : ∃ g, Hid (g = wo.heap.size) := ⟨_, rfl⟩
          rw [← hg.out] at R7
          rw [← hg.out]
          have hgB : B ≤ g := by rw [hg.out]; exact hszr
          have hgr : wo.heap.size ≤ g := by rw [hg.out]; exact Nat.le_refl _
          have hbg : b ≠ g := by omega
          have hfg : fb ≠ g := by have := hg.out; omega
          have cf7 := (b7.cell (p := ⟨fb, 0, none⟩) hfl).trans cf
          have hfl7 : fb < w7.heap.size := Nat.lt_of_lt_of_le hfl b7.size
          have hB7 : Below B w0 w7 := hB.trans (b7.mono hszr)
          have HW : Hid (∀ j, j < k → ∃ xa xc, wo.cell? ⟨db, doff + j, none⟩ = some (.slice xa (ro L j).length xc) ∧ Rd wo (.slice xa (ro L j).length xc) (ro L j)) := fun j hj => (HD.out _ hB).get (by rw [hLh.out]; exact hj)
          have hO' : Hid _ := hO
          clear hO
          go_loopw [47] (fun i w8 => ∃ j : Nat, j ≤ k ∧ i = .int .i64 j ∧ Only g w7 w8 ∧ RowF w8 B 5 g n n (wd F L r j)) (fun i _ => k - (intOf i).toNat)
          case atStart => exact ⟨0, by omega, rfl, Only.refl _ _, R7⟩
          case round =>
            obtain ⟨w8, hw8⟩ : ∃ w8, w8 = wr := ⟨_, rfl⟩
            subst hw8
            clear R7
            obtain ⟨j, hj2, rfl, hO8, R8⟩ := hrel
            have hB8 : Below B w0 w8 := hB7.trans (hO8.below hgB)
            have b8 : Below wo.heap.size wo w8 := b7.trans (hO8.below hgr)
            by_cases hlt3 : j < k
            · have hlt3' : (j : Int) < (k : Int) := by omega
              obtain ⟨xa, xc, cj, rj⟩ := HW.out j hlt3
              have hap : Apart g (.slice xa (ro L j).length xc) := rj.apart hgr
              have cj8 := (b8.cell (p := ⟨db, doff + j, none⟩) hdw).trans cj
              have rj8 := rj.below b8
              have X8 := HX.out _ hB8
              have x1 := X8.c1
              have x2 := X8.c2
              obtain ⟨T, hT⟩ : ∃ T, Hid (T = r * k + j) := ⟨_, rfl⟩
              have hTN : T < N := by rw [hT.out, hNm.out]; exact place_lt hlt2 hlt3
              have hNs : N ≤ 65536 := by rw [hNm.out]; exact mul_small (by omega) (by omega)
              obtain ⟨o', ho'⟩ : ∃ o', Hid (o' = r * k) := ⟨_, rfl⟩
              have hoT : o' + j = T := by rw [ho'.out, hT.out]
              have g1 : (r : Int) * (k : Int) = (o' : Int) := by rw [ho'.out]; exact_mod_cast rfl
              have g2 : (o' : Int) + (j : Int) = (T : Int) := by omega
              have v1 : IntKind.i64.wrap (o' : Int) = (o' : Int) := by rw [IntKind.wrap_i64]; omega
              have v2 : IntKind.i64.wrap (T : Int) = (T : Int) := by rw [IntKind.wrap_i64]; omega
              obtain ⟨ab, ao, eva, hab, ca⟩ := (HA.out _ hB8).byte (i := T) (by rw [flat_length, ← hNm.out]; exact hTN)
              have eT : co (flat m k F) T = F r j := by rw [hT.out]; exact en_flat F hlt2 hlt3
              rw [eT] at ca
              subst eva
              have hTN' : (T : Int) < (N : Int) := by omega
              have hlen : (ro L j).length = n := by rw [hn.out]; exact hEv.out j (by rw [hLh.out]; exact hlt3)
              rw [hlen] at cj8 rj8 hap
              have hF8 := HF.out _ hB8
              have cf8 := (hO8.cell (p := ⟨fb, 0, none⟩) hfg).trans cf7
              have hfl8 : fb < w8.heap.size := by rw [hO8.size]; exact hfl7
              have hlen' : Hid _ := hlen
              have hO8' : Hid _ := hO8
              have R8' : Hid _ := R8
              clear hlen cj rj X8 hB8 b8 eT hoT cf7 cf hO8 R8
              go_wp2_with fail
              refine (add1_any (F r j) hF8 hbg cf8 hfg hfl8 R8'.out rj8 hap hlen'.out (by omega) rfl).mono ?_
              rintro e w9 ⟨rfl, hO9, hR9⟩
              have HN1 : Hid (RowF w9 B 5 g n n (wd F L r (j + 1))) := hR9.congr fun t ht => by rw [wd_succ]; exact if_pos ht
              have HN2 : Hid (Only g w7 w9) := hO8'.out.trans hO9
              clear hO9 hR9 hF8 rj8 hap cj8 ca x1 x2 cf8 hfl8 hO8' R8'
              go_wp2
              go_roundw
              case rel => exact ⟨j + 1, by omega, by go_num, HN2.out, HN1.out⟩
              case measure => simp [intOf]; omega
            · have hge3 : ¬ (j : Int) < (k : Int) := by omega
              have ej : j = k := by omega
              rw [ej] at R8
              clear ej
              have hx8 := OwnP.rowF R8
              have eP : upto (wd F L r k) n = parR k F L r := by rw [hn.out]; rfl
              rw [eP] at hx8
              have cf8 := (hO8.cell (p := ⟨fb, 0, none⟩) hfg).trans cf7
              have hfl8 : fb < w8.heap.size := by rw [hO8.size]; exact hfl7
              have hS8 : wo.heap.size < w8.heap.size := by have := R8.lt.2; omega
              clear R8 cf7 cf eP
              go_wp2_with (at_builtin; go_loud (refine wpList_append_os rfl (.tmp 67) (.tmp 69) 106 rfl B 36 i1 Tryz.underlying106 hj hy0 hy1 hy2 5 (.slice av (k + r) cv) (L ++ mkL r (parR k F L)) rfl hO'.out b8 (.slice (some ⟨g, 0, none⟩) n n) (parR k F L r) hx8 (by intro q hq; cases hq; exact hgr) _ 1 rfl (by rw [HLen.out]; omega) hszr ?_); intro v' w9 hv9 hb9 hq9 hf9)
              have HOn : Hid (Os w9 B 36 5 v' (L ++ mkL (r + 1) (parR k F L))) := by
                show Os _ _ _ _ _ _
                rw [mkL_succ, ← List.append_assoc]; exact hv9
              have HBn : Hid (Below B w0 w9) := hB.trans hb9
              have HCn : Hid (w9.cell? ⟨fb, 0, none⟩ = some (.pointer (some ⟨b, 0, none⟩))) := (World.cell?_of_block (w := w8) (a := ⟨fb, 0, none⟩) (hq9 fb hfl8 hof)).trans cf8
              have HFn : Hid (v'.ownBlock ≠ some fb) := hf9 fb hfl8 hof
              have HLn : Hid (fb < w9.heap.size) := Nat.lt_of_lt_of_le hfl hb9.size
              clear hv9 hb9 hq9 hf9 hx8 cf8 hfl8 hB8 b8 hO8 hB hB7 b7 hO' hof
              go_wp2
              go_roundw
              case rel => exact ⟨r + 1, by omega, by go_num, HOn.out, HBn.out, HCn.out, HLn.out, HFn.out⟩
              case measure => simp [intOf]; omega
        · have hge2 : ¬ (r : Int) < (m : Int) := by omega
          have er : r = m := by omega
          rw [er] at hO
          have HR : Hid (FarL wo w.heap.size u7 (encL m k F L)) := ⟨_, _, hO.base (by omega)⟩
          have HBn : Hid (Below w.heap.size w wo) := HB0.out.trans (hB.mono (by omega))
          clear hO hB cf hof er
          go_wp2
          go_ret
          exact ⟨_, rfl, HR.out, HBn.out⟩
end Go.Proofs.YtddnfhfangfgeaaGreat.Gf
