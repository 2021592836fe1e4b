/- TEXTS JOINED: BkPut, BkUy, BkLin, BkInf, BkRefA, BkCop, BkRefE, BkBeq, BkCA, BkCB, BkOne, BkCC, BkEn, ErMath, ErRd, ErOwn, ErLawM, ErPl, ErRefA, ErGn, ErRefD, ErRefE, ErOut, SyMath, SyCol, SyLawC. -/
import Derived.Test.YtddnfhfangfgeaaGreatTome4
import Derived.BigQuiet
import Derived.Test.YtddnfhfangfgeaaGreatTome2
import Derived.Laws.BytesArg
import Derived.Test.YtddnfhfangfgeaaGreatTome1
import Derived.Deep.RegionWith
import Derived.WalkMore
import Derived.Deep.RegionHeld3
import Derived.Deep.QuietTactic
import Derived.Test.YtddnfhfangfgeaaGreatTome3
namespace Go.Proofs.YtddnfhfangfgeaaGreat.Gf
set_option linter.unusedVariables false
set_option linter.unusedSimpArgs false
open Go.RowKit
/-- what a store of a slice to its place leaves -/
theorem Os.spot {wr w1 : World} {base T u G n C : Nat} {L : List (List UInt8)} (h : Os wr base T u (.slice (some ⟨G, 0, none⟩) n C) L) (b1 : Below wr.heap.size wr w1) {i : Nat} (hi : i < L.length) :
    ∃ y, w1.cell? ⟨G, i, none⟩ = some y ∧ w1.frozen? ⟨G, i, none⟩ = false ∧ G < w1.heap.size ∧ base ≤ G ∧ G < wr.heap.size := by
  obtain ⟨vals, hv, hr⟩ := h
  have hl : vals.length = L.length := by have := hv.1; omega
  have hG := World.ownsRow.lt hv G rfl
  have hv1 := owns_later hv b1
  have hn : n = L.length := by
    obtain ⟨_, ⟨e, _⟩ | ⟨g, cap, cur, e, _⟩⟩ := hv <;> simp at e
    exact e.2.1
  subst hn
  exact ⟨vals[i], by rw [World.ownsRow.cellAt hv1 i (by omega)]; exact List.getElem?_eq_getElem (by omega), World.ownsRow.frozenAt hv1 i, Nat.lt_of_lt_of_le hG.2 b1.size, hG.1, hG.2⟩
theorem Only.grown {g : Nat} {w w' : World} (O : Only g w w') : w.grownBy w' (some g) :=
  ⟨O.os, O.tape, O.output, by rw [O.size]; exact Nat.le_refl _, fun q _ hq => O.block q (fun e => hq (by rw [e]))⟩
/-- a shard of the call's own, stored to its place, and then told anew in its block g -/
theorem Os.put {wr w1 w3 : World} {base T u G n C g : Nat} {x : Value} {L : List (List UInt8)} {p : List UInt8} (h : Os wr base T u (.slice (some ⟨G, 0, none⟩) n C) L) (b1 : Below wr.heap.size wr w1) {i : Nat} (hi : i < L.length) (hx : x.ownBlock = some g) (hg : wr.heap.size ≤ g)
    (O : Only g (w1.setCell ⟨G, i, none⟩ x) w3) (hp : OwnP w3 base u x p) : Os w3 base T u (.slice (some ⟨G, 0, none⟩) n C) (L.set i p) := by
  obtain ⟨vals, hv, hr⟩ := h
  have hl : vals.length = L.length := by have := hv.1; omega
  have hG := World.ownsRow.lt hv G rfl
  have hv1 := owns_later hv b1
  have hn : n = L.length := by
    obtain ⟨_, ⟨e, _⟩ | ⟨g, cap, cur, e, _⟩⟩ := hv <;> simp at e
    exact e.2.1
  subst hn
  obtain ⟨v8, g8⟩ := World.ownsRow.stored hv1 i x
  have old : ∀ (j : Nat) (y : Value), vals[j]? = some y → ∀ k, y.ownBlock = some k → k < wr.heap.size := fun j y hy k hk => ((hr.own j y hy).lt hk).2
  have sets : ∀ (j : Nat) (y : Value), (vals.set i x)[j]? = some y → (j = i ∧ y = x) ∨ (j ≠ i ∧ vals[j]? = some y) := fun j y hy => by
    by_cases e : j = i
    · subst e
      rw [List.getElem?_set_self (by omega)] at hy
      exact Or.inl ⟨rfl, by cases hy; rfl⟩
    · rw [List.getElem?_set_ne (fun h => e h.symm)] at hy
      exact Or.inr ⟨e, hy⟩
  refine ⟨vals.set i x, by rw [List.length_set]; exact World.ownsRow.kept v8 O.grown (Or.inr (by simp [Value.ownBlock]; omega)), ⟨fun j y hy => ?_, fun j l y z hy hz hjl => ?_, fun j y hy => ?_⟩⟩
  · rw [ro_set hi]
    rcases sets j y hy with ⟨rfl, rfl⟩ | ⟨e, hy⟩
    · rw [if_pos rfl]; exact hp
    · rw [if_neg e]
      exact OwnP.kept (OwnP.kept (owns_later (hr.own j y hy) b1) g8 (hr.out j y hy)) O.grown (block_apart (old j y hy) (fun k e => by cases e; exact hg))
  · rcases sets j y hy with ⟨ej, ey⟩ | ⟨ej, hy'⟩
    · rcases sets l z hz with ⟨el, ez⟩ | ⟨el, hz'⟩
      · exact absurd (ej.trans el.symm) hjl
      · rw [ey]; exact block_apart' (s := wr.heap.size) (fun k hk => by rw [hx] at hk; cases hk; exact hg) (old l z hz')
    · rcases sets l z hz with ⟨el, ez⟩ | ⟨el, hz'⟩
      · rw [ez]; exact block_apart (old j y hy') (fun k hk => by rw [hx] at hk; cases hk; exact hg)
      · exact hr.diff j l y z hy' hz' hjl
  · rcases sets j y hy with ⟨rfl, rfl⟩ | ⟨e, hy⟩
    · right; rw [hx]; simp [Value.ownBlock]; omega
    · exact hr.out j y hy
/-- 'make' of shards: none of them -/
theorem Os.blank {w : World} {base T u G n : Nat} {cs : List Value} (hv : w.ownsRow base T 1 (.slice (some ⟨G, 0, none⟩) n n) n cs) (hc : ∀ y ∈ cs, y = .slice none 0 0) : Os w base T u (.slice (some ⟨G, 0, none⟩) n n) (mkL n (fun _ => [])) := by
  have hl : cs.length = n := by have := hv.1; omega
  refine ⟨cs, by rw [mkL_length]; exact hv, ⟨fun i x hx => ?_, fun i j x y hx _ _ => ?_, fun i x hx => ?_⟩⟩
  · have hi : i < n := by
      rcases Nat.lt_or_ge i cs.length with h | h
      · omega
      · rw [List.getElem?_eq_none h] at hx; cases hx
    rw [ro_mkL hi, hc x (List.mem_of_getElem? hx)]
    exact World.ownsRow_nil _ _ _ _
  · left; rw [hc x (List.mem_of_getElem? hx)]; rfl
  · left; rw [hc x (List.mem_of_getElem? hx)]; rfl
end Go.Proofs.YtddnfhfangfgeaaGreat.Gf



namespace Go.Proofs.YtddnfhfangfgeaaGreat.Gf
set_option linter.unusedVariables false
set_option linter.unusedSimpArgs false
open Go.RowKit
theorem enc_row_lt {m k : Nat} {F : Mx} {L : List (List UInt8)} {i : Nat} (h : i < L.length) : ro (encL m k F L) i = ro L i := ro_append_left h
theorem enc_row_ge {m k : Nat} {F : Mx} {L : List (List UInt8)} {i : Nat} (h : i < m) : ro (encL m k F L) (L.length + i) = parR k F L i := by
  unfold encL
  rw [ro_append_right (by omega), show L.length + i - L.length = i by omega, ro_mkL h]
theorem enc_row_ge' {m k : Nat} {F : Mx} {L : List (List UInt8)} {i : Nat} (h : L.length ≤ i) (h2 : i < L.length + m) : ro (encL m k F L) i = parR k F L (i - L.length) := by
  have := enc_row_ge (m := m) (k := k) (F := F) (L := L) (i := i - L.length) (by omega)
  rwa [show L.length + (i - L.length) = i by omega] at this
theorem enc_len {m k : Nat} {F : Mx} {L : List (List UInt8)} (hE : Even L) {i : Nat} (h : i < L.length + m) : (ro (encL m k F L) i).length = (ro L 0).length := by
  by_cases e : i < L.length
  · rw [enc_row_lt e]; exact hE i e
  · rw [enc_row_ge' (by omega) h, parR_length]
end Go.Proofs.YtddnfhfangfgeaaGreat.Gf

namespace Go.Proofs.YtddnfhfangfgeaaGreat.Gf
set_option linter.unusedVariables false
set_option linter.unusedSimpArgs false
open Go.RowKit
theorem info_shard : (Tryz.prog.info? 36).map (fun i => (i.zero, i.size, i.bytes)) = some (some (.slice none 0 0), 1, 24) := by kernel_rfl
theorem take_next {M : List (List UInt8)} {k : Nat} (h : k < M.length) : M.take (k + 1) = M.take k ++ [ro M k] := by
  rw [List.take_add_one, ro_some h]; rfl
end Go.Proofs.YtddnfhfangfgeaaGreat.Gf







namespace Go.Proofs.YtddnfhfangfgeaaGreat.Gf
set_option linter.unusedVariables false
set_option linter.unusedSimpArgs false
open Go.RowKit
theorem conv_str {w : World} {v : Value} {p : List UInt8} (h : Rd w v p) : Sem.run Tryz.prog (convert 36 9 v) w = .ok (.string ⟨p.toArray⟩) w := by
  rcases h with ⟨a, c, rfl, rfl, _⟩ | ⟨b, off, cap, hp0, rfl, h1, h2, h3, hpc⟩
  · rcases a with _ | a
    · kernel_rfl
    · kernel_rfl
  · rw [run_convert_bytes_arg (P := Tryz.prog) w 36 5 Tryz.underlying36 Tryz.underlying5 b off p.length cap (p.map fun x => ((x.toNat : Nat) : Int)) (by simp) (fun i hi => by rw [hpc i hi, co_lt hi]; simp [List.getD, hi]) 9 Tryz.underlying9]
    unfold strOfNums
    congr 4
    rw [List.map_map]
    conv => rhs; rw [← List.map_id p]
    apply List.map_congr_left
    intro b _
    simp
set_option maxRecDepth 100000 in
set_option maxHeartbeats 1000000 in
theorem beq_any {va vb : Value} {p q : List UInt8} {w : World} (hp : Rd w va p) (hq : Rd w vb q) : Calls Tryz.prog 190 #[va, vb] w fun e w' => e = .returned (.bool (sameB p q)) ∧ w' = w := by
  have h1 := conv_str hp
  have h2 := conv_str hq
  obtain ⟨a, c, rfl⟩ := hp.form
  obtain ⟨a', c', rfl⟩ := hq.form
  clear hp hq
  go_enter Tryz.func190, Tryz.ntmps190
  go_wp2
  go_ret
  have e : (p == q) = sameB p q := by unfold sameB; rw [Bool.eq_iff_iff]; simp
  exact ⟨congrArg (fun b => Ending.returned (.bool b)) e, rfl⟩
end Go.Proofs.YtddnfhfangfgeaaGreat.Gf

namespace Go.Proofs.YtddnfhfangfgeaaGreat.Gf
set_option linter.unusedVariables false
set_option linter.unusedSimpArgs false
open Go.RowKit
/-- a row and a multiple of a shard, for the first k places -/
def addR (f : Nat → UInt8) (a : UInt8) (q : List UInt8) (k : Nat) (t : Nat) : UInt8 := if t < k then f t ^^^ mu a (co q t) else f t
theorem addR_zero (f : Nat → UInt8) (a : UInt8) (q : List UInt8) : addR f a q 0 = f := by funext t; exact if_neg (by omega)
theorem addR_step (f : Nat → UInt8) (a : UInt8) (q : List UInt8) (k t : Nat) : addR f a q (k + 1) t = if t = k then f k ^^^ mu a (co q k) else addR f a q k t := by
  unfold addR
  by_cases e : t = k
  · subst e; rw [if_pos (by omega), if_pos rfl]
  · rw [if_neg e]
    by_cases h : t < k
    · rw [if_pos h, if_pos (by omega)]
    · rw [if_neg h, if_neg (by omega)]
set_option maxRecDepth 100000 in
set_option maxHeartbeats 2000000 in
/-- what adds a shard, times a number, to a row: fb its captured variable -/
theorem add1_any {w : World} {base u g n c b fb : Nat} {f : Nat → UInt8} {vq : Value} {q : List UInt8} (a : UInt8) (hF : FieldAt w b) (hbg : b ≠ g) (cf : w.cell? ⟨fb, 0, none⟩ = some (.pointer (some ⟨b, 0, none⟩))) (hfg : fb ≠ g) (hfl : fb < w.heap.size)
    (hR : RowF w base u g n c f) (hq : Rd w vq q) (hap : Apart g vq) (hn : q.length = n) (hL : n ≤ 1000000) {y : Int} (hy : y = ((a.toNat : Nat) : Int)) :
    Calls Tryz.prog 187 #[.slice (some ⟨g, 0, none⟩) n c, .int .u8 y, vq, .pointer (some ⟨fb, 0, none⟩)] w fun e w' => e = .returned (.tuple #[]) ∧ Only g w w' ∧ RowF w' base u g n c (addR f a q n) := by
  subst hy
  obtain ⟨qa, qc, rfl⟩ := hq.form
  rw [hn]
  go_enter Tryz.func187, Tryz.ntmps187
  go_wp2
  go_loopw [11] (fun i wr => ∃ k : Nat, k ≤ n ∧ i = .int .i64 k ∧ Only g w wr ∧ RowF wr base u g n c (addR f a q k)) (fun i _ => n - (intOf i).toNat)
  case atStart => exact ⟨0, by omega, rfl, Only.refl _ _, by rw [addR_zero]; exact hR⟩
  case round =>
    obtain ⟨k, hk, rfl, hO, hRk⟩ := hrel
    by_cases hlt : k < n
    · have hq2 := hq.only hap hO
      rw [hn] at hq2
      obtain ⟨qb, qo, rfl, _, ct⟩ := hq2.byte (i := k) (by omega)
      have c1 := hRk.cell hlt
      have f1 := hRk.unfrozen k
      have cf2 := (hO.cell (p := ⟨fb, 0, none⟩) hfg).trans cf
      have e1 : addR f a q k k = f k := if_neg (by omega)
      rw [e1] at c1
      have E := xor_u8 (f k) (mu a (co q k))
      have HN : Hid (RowF (wr.setCell ⟨g, k, none⟩ (.int .u8 (((f k).toNat ^^^ (mu a (co q k)).toNat : Nat) : Int))) base u g n c (addR f a q (k + 1))) := by
        rw [← UInt8.toNat_xor]
        exact hRk.store hlt _ fun s => addR_step _ _ _ _ _
      have HO : Hid (Only g w (wr.setCell ⟨g, k, none⟩ (.int .u8 (((f k).toNat ^^^ (mu a (co q k)).toNat : Nat) : Int)))) := hO.setCell k _
      have hFr := hF.only hbg hO
      have hlt' : (k : Int) < (n : Int) := by omega
      clear hRk hO hR e1 hq hap hn hq2 hF cf
      go_wp2
      go_region_with ((go_at_call 188; refine (fmu_quiet (hFr.drewN _) a (co q k) rfl rfl).mono ?_; rintro e w' ⟨rfl, d, rfl⟩))
      all_goals go_wp2
      all_goals
        go_roundw
        case rel => exact ⟨k + 1, by omega, by go_num, HO.out.drewN _, HN.out.drewN _⟩
        case measure => simp [intOf]; omega
    · have e : k = n := by omega
      subst e
      have hge : ¬ (k : Int) < (k : Int) := by omega
      clear hq
      go_wp2
      go_end0
      exact ⟨rfl, hO, hRk⟩
set_option maxRecDepth 100000 in
set_option maxHeartbeats 1000000 in
theorem add0_any {b : Nat} (w : World) : Calls Tryz.prog 162 #[.pointer (some ⟨b, 0, none⟩)] w fun e w' => ∃ fb, e = .returned (.func (.func 187) #[] #[.pointer (some ⟨fb, 0, none⟩)]) ∧ w'.cell? ⟨fb, 0, none⟩ = some (.pointer (some ⟨b, 0, none⟩)) ∧ w.heap.size ≤ fb ∧ fb < w'.heap.size ∧ Below w.heap.size w w' := by
  go_enter Tryz.func162, Tryz.ntmps162
  go_wp2
  go_ret
  exact ⟨_, rfl, by simp, by omega, by simp, (Below.refl _ _).alloc (Nat.le_refl _) _⟩
/-- 'copy' into a row of the call's own -/
theorem run_copy_rd {P : Program} {w : World} (dT sT ty : TypeId) (elem : TypeId) (hu : P.underlying dT = some (.slice elem)) (hsz : (P.info? elem).map (·.size) = some 1)
    {g off n dl dCap : Nat} {va : Value} {p : List UInt8} {base e L : Nat} {f : Nat → UInt8} (hr : Rd w va p) (hn : p.length = n) (hdl : n ≤ dl) (hR : RowF w base e g L L f) (hl : off + n ≤ L) :
    ∃ w', Sem.run P (Builtin.copy_ #[dT, sT] ty #[.slice (some ⟨g, off, none⟩) dl dCap, va]) w = .ok (goInt n) w' ∧ Only g w w' ∧ RowF w' base e g L L (putAt f off n (co p)) := by
  subst hn
  obtain ⟨hg, hm⟩ := hR.heap rfl
  have hlt := hR.lt
  rcases hr with ⟨ao, cap, rfl, rfl, _⟩ | ⟨b, so, cap, hp0, rfl, h1, h2, h3, hpc⟩
  · have hrun := run_copy_none (P := P) w dT sT ty elem (some ⟨g, off, none⟩) ao dl dCap 0 cap hu hsz (Nat.zero_min _)
    exact ⟨w, hrun, Only.refl _ _, by rw [List.length_nil, putAt_zero]; exact hR⟩
  · have hrun := run_copy_row (P := P) w dT sT ty elem g off dl dCap ⟨b, so, none⟩ p.length cap ((upto f L).map vb).toArray e (p.map vb) hu hsz hg (by rw [List.length_map]; exact (Nat.min_eq_left hdl).symm) (by have := news_of (k := p.length) hpc; rwa [List.take_length] at this) (by simp [upto_length]; exact hl) (vb_one p)
    refine ⟨_, by simpa using hrun, only_setRow _ _ _, RowF.of_heap hlt.1 hm ?_⟩
    rw [← splice_upto hl]
    simpa [splice] using setRow_heap w g _ _ e _ hg
set_option maxRecDepth 100000 in
set_option maxHeartbeats 1000000 in
theorem cop_any {v : Value} {p : List UInt8} {w : World} (hp : Rd w v p) (hl : p.length ≤ 100000) : Calls Tryz.prog 161 #[v] w fun e w' => ∃ g, e = .returned (.slice (some ⟨g, 0, none⟩) p.length p.length) ∧ w.heap.size ≤ g ∧ RowF w' w.heap.size 5 g p.length p.length (co p) ∧ Below w.heap.size w w' := by
  obtain ⟨i0, hi, hz0, hz1, hz2⟩ := info_parts info_u8
  obtain ⟨qa, qc, rfl⟩ := hp.form
  obtain ⟨n, hn⟩ : ∃ n, Hid (n = p.length) := ⟨_, rfl⟩
  rw [← hn.out] at hl hp ⊢
  go_enter Tryz.func161, Tryz.ntmps161
  go_wp2_with (at_make; go_loud (refine wpList_make_full _ rfl (.tmp 5) (.tmp 5) 36 rfl w.heap.size 5 i0 (.int .u8 0) 1 Tryz.underlying36 hi hz0 hz1 _ _ _ _ n rfl rfl (by omega) (by omega) (by rw [hz2]; omega) (by unfold maxLen; omega) (by simp) ?_); intro w1 hown1 hgrow1; have R1 := RowF.made hown1; clear hown1)
  have b1 : Below w.heap.size w w1 := (Below.refl _ _).grown hgrow1 (Nat.le_refl _) (fun k hk => by cases hk)
  clear hgrow1
  have hg1 := R1.lt
  generalize hgg : w.heap.size = g at *
  obtain ⟨w2, hrun, hO, hR⟩ := run_copy_rd (P := Tryz.prog) 36 36 3 5 Tryz.underlying36 (by rw [hi]; simp [hz1]) (hp.below (by rw [hgg]; exact b1)) hn.out.symm (Nat.le_refl n) R1 (off := 0) (dCap := n) (by omega)
  rw [hrun]
  have HR : Hid (RowF w2 g 5 g n n (co p)) := hR.congr fun t ht => by unfold putAt; rw [if_pos (by omega), Nat.sub_zero]
  have HO : Hid (Only g w1 w2) := hO
  clear hR hO R1 hp hrun
  go_wp2
  go_ret
  subst hgg
  exact ⟨_, rfl, Nat.le_refl _, HR.out, b1.trans (HO.out.below (Nat.le_refl _))⟩
end Go.Proofs.YtddnfhfangfgeaaGreat.Gf

namespace Go.Proofs.YtddnfhfangfgeaaGreat.Gf
set_option linter.unusedVariables false
set_option linter.unusedSimpArgs false
open Go.RowKit
theorem OwnP.row {w : World} {base base' u g : Nat} {p : List UInt8} (h : RowF w base u g p.length p.length (co p)) (hb : base' ≤ base) : OwnP w base' u (.slice (some ⟨g, 0, none⟩) p.length p.length) p := by
  have := h.base hb
  unfold RowF at this
  rw [upto_co] at this
  exact this
theorem OwnP.rowF {w : World} {base u g n : Nat} {f : Nat → UInt8} (h : RowF w base u g n n f) : OwnP w base u (.slice (some ⟨g, 0, none⟩) n n) (upto f n) := by
  unfold OwnP
  rw [upto_length]
  exact h
set_option maxRecDepth 100000 in
set_option maxHeartbeats 4000000 in
theorem encd_far {w : World} {b : Nat} {vs v : Value} {L : List (List UInt8)} (m k : Nat) (F : Mx) (hF : FieldAt w b) (hA : Rd w vs (flat m k F)) (h1 : 1 ≤ k) (h2 : k + m ≤ 256) (h : Rs w v L) (hL : L.length = k) (hE : Even L) (hS : Small L) {x y : Int} (hx : x = (m : Int)) (hy : y = (k : Int)) :
    Calls Tryz.prog 130 #[.pointer (some ⟨b, 0, none⟩), .agg #[.int .i64 x, .int .i64 y, vs], v] w fun e w' => ∃ v', e = .returned v' ∧ FarL w' w.heap.size v' (encL m k F L) ∧ Below w.heap.size w w' := by
  subst hx hy
  obtain ⟨i0, hi, hz0, hz1, hz2⟩ := info_parts info_u8
  obtain ⟨i1, hj, hy0, hy1, hy2⟩ := info_parts info_shard
  obtain ⟨db, doff, dc, rfl, hdb, hdc, hdm⟩ := h.somewhere (by omega)
  have hLh : Hid (L.length = k) := hL
  rw [hL] at h ⊢
  clear hL
  obtain ⟨N, hN⟩ : ∃ N, Hid (N = (flat m k F).length) := ⟨_, rfl⟩
  obtain ⟨va, vc, rfl⟩ := hA.form
  rw [← hN.out] at hA ⊢
  have hNm : Hid (N = m * k) := by show _ = _; rw [hN.out, flat_length]
  have B0 : Below w.heap.size w (w.alloc (.cells #[.int .i64 (m : Int), .int .i64 (k : Int), .slice va N vc] 148)) := (Below.refl _ _).alloc (Nat.le_refl _) _
  have X0 := Box.new w (m : Int) (k : Int) (.slice va N vc) 148
  have s0 : (w.alloc (.cells #[.int .i64 (m : Int), .int .i64 (k : Int), .slice va N vc] 148)).heap.size = w.heap.size + 1 := by simp
  have gk : (k : Int) + (m : Int) = ((k + m : Nat) : Int) := by omega
  have gw : IntKind.i64.wrap ((k + m : Nat) : Int) = ((k + m : Nat) : Int) := by rw [IntKind.wrap_i64]; omega
  obtain ⟨K, hK⟩ : ∃ K, Hid (K = k + m) := ⟨_, rfl⟩
  have hK2 : K ≤ 256 := by have := hK.out; omega
  rw [← hK.out] at gk gw
  go_enter Tryz.func130, Tryz.ntmps130
  go_wp2_with (at_make; go_loud (refine wpList_make_own _ rfl _ (.tmp 19) 106 rfl (w.alloc (.cells #[.int .i64 (m : Int), .int .i64 (k : Int), .slice va N vc] 148)).heap.size 36 i1 (.slice none 0 0) 1 Tryz.underlying106 hj hy0 hy1 _ _ _ K rfl rfl rfl (by rw [hy2]; omega) (by unfold maxLen; omega) (Nat.le_refl _) ?_); intro w1 hown1 hgrow1)
  generalize w.alloc (.cells #[.int .i64 (m : Int), .int .i64 (k : Int), .slice va N vc] 148) = w0 at *
  have HO1 : Hid (Os w1 w0.heap.size 36 5 (.slice (some ⟨w0.heap.size, 0, none⟩) 0 K) []) := ⟨[], hown1, RowsO.nil _ _ _ _ _⟩
  have HB1 : Hid (Below w0.heap.size w0 w1) := (Below.refl _ _).grown hgrow1 (Nat.le_refl _) (fun q hq => by cases hq)
  clear hown1 hgrow1
  obtain ⟨B, hBB⟩ : ∃ B, Hid (B = w0.heap.size) := ⟨_, rfl⟩
  have hsB : w.heap.size < B := by rw [hBB.out]; omega
  rw [← hBB.out] at HO1
  rw [← s0, ← hBB.out]
  have h0 := h.below B0
  have hA0 := hA.below B0
  have hF0 := hF.below B0
  rw [← hBB.out] at HB1
  have X1 : ∀ wr, Below B w0 wr → Box wr w.heap.size (m : Int) (k : Int) (.slice va N vc) := fun wr hb => X0.below hsB hb
  have D1 : ∀ wr, Below B w0 wr → Rs wr (.slice (some ⟨db, doff, none⟩) k dc) L := fun wr hb => h0.below (by rw [← hBB.out]; exact hb)
  have A1 : ∀ wr, Below B w0 wr → Rd wr (.slice va N vc) (flat m k F) := fun wr hb => hA0.below (by rw [← hBB.out]; exact hb)
  have F1 : ∀ wr, Below B w0 wr → FieldAt wr b := fun wr hb => hF0.below (by rw [← hBB.out]; exact hb)
  have HX : Hid _ := X1
  have HD : Hid _ := D1
  have HA : Hid _ := A1
  have HF : Hid _ := F1
  have HB0 : Hid (Below w.heap.size w w0) := B0
  have hbB : b < B := by have := hF.lt; omega
  have hdB : db < B := by omega
  have hsz : B ≤ w1.heap.size := by rw [hBB.out]; exact HB1.out.size
  clear X1 D1 A1 F1 h0 hA0 hF0 h hA hF X0 B0 s0
  have hS1 := hS.1
  have hSk : Hid (∀ i, (ro L i).length ≤ 300) := hS.2
  have hEv : Hid (Even L) := hE
  clear hS hE hN
  go_wp2
  go_loopw [7, 23] (fun o i wr => ∃ c : Nat, c ≤ k ∧ i = .int .i64 c ∧ Os wr B 36 5 o (L.take c) ∧ Below B w0 wr) (fun _ i _ => k - (intOf i).toNat)
  case atStart => exact ⟨0, by omega, rfl, HO1.out, HB1.out⟩
  case round =>
    obtain ⟨c, hc, rfl, hO, hB⟩ := hrel
    clear HO1 HB1
    have hszr : B ≤ wr.heap.size := by rw [hBB.out]; exact hB.size
    by_cases hlt : c < k
    · have hlL : c < L.length := by rw [hLh.out]; exact hlt
      obtain ⟨xa, xc, c1, r1⟩ := (HD.out _ hB).get hlL
      have hlt' : (c : Int) < (k : Int) := by omega
      have hln := hSk.out c
      obtain ⟨p, hp⟩ : ∃ p, Hid (p = ro L c) := ⟨_, rfl⟩
      have HT : Hid (L.take (c + 1) = L.take c ++ [p]) := by show _ = _; rw [hp.out]; exact take_next hlL
      have HL : Hid ((L.take c).length = c) := by show _ = _; rw [List.length_take]; omega
      rw [← hp.out] at c1 r1 hln
      obtain ⟨av, cv, ev⟩ := hO.form
      rw [HL.out] at ev
      subst ev
      have hdw : db < wr.heap.size := by omega
      clear hp
      go_wp2_with fail
      refine (cop_any r1 (by omega)).mono ?_
      rintro e w5 ⟨g, rfl, hg, hR, b5⟩
      go_wp2_with (at_builtin; go_loud (refine wpList_append_os rfl (.tmp 27) (.tmp 30) 106 rfl B 36 i1 Tryz.underlying106 hj hy0 hy1 hy2 5 (.slice av c cv) (L.take c) rfl hO b5 (.slice (some ⟨g, 0, none⟩) p.length p.length) p (OwnP.row hR hszr) (by intro q hq; cases hq; exact hg) _ 1 rfl (by rw [HL.out]; omega) hszr ?_); intro v' w6 hv6 hb6 _ _)
      rw [← HT.out] at hv6
      have HBn : Hid (Below B w0 w6) := hB.trans hb6
      have HOn : Hid (Os w6 B 36 5 v' (L.take (c + 1))) := hv6
      clear hB hb6 hv6 hO hR b5 c1 r1
      go_roundw
      case rel => exact ⟨c + 1, by omega, by go_num, HOn.out, HBn.out⟩
      case measure => simp [intOf]; omega
    · have hge : ¬ (c : Int) < (k : Int) := by omega
      have e : L.take c = L := by rw [show c = L.length by rw [hLh.out]; omega, List.take_length]
      rw [e] at hO
      clear e
      go_wp2_with fail
      refine (add0_any _).mono ?_
      rintro e w6 ⟨fb, rfl, cf, hfb, hfl, b6⟩
      have hO6 := hO.later b6
      have hB6 : Below B w0 w6 := hB.trans (b6.mono hszr)
      have ho6 : Hid (u7.ownBlock ≠ some fb) := by
        obtain ⟨vals, hv, _⟩ := hO
        intro e
        have := (World.ownsRow.lt hv _ e).2
        omega
      clear hO hB b6
      have x0 := (HX.out _ hB6).c0
      go_wp2
      clear x0
      go_loopw [7, 37] (fun o i wr => ∃ r : Nat, r ≤ m ∧ i = .int .i64 r ∧ Os wr B 36 5 o (L ++ mkL r (parR k F L)) ∧ Below B w0 wr ∧ wr.cell? ⟨fb, 0, none⟩ = some (.pointer (some ⟨b, 0, none⟩)) ∧ fb < wr.heap.size ∧ o.ownBlock ≠ some fb) (fun _ i _ => m - (intOf i).toNat)
      case atStart => exact ⟨0, by omega, rfl, by simpa [mkL] using hO6, hB6, cf, hfl, ho6.out⟩
      case round =>
        clear hO6 hB6 cf hfl ho6 hszr hfb
        obtain ⟨r, hr, rfl, hO, hB, cf, hfl, hof⟩ := hrel
        obtain ⟨wo, hwo⟩ : ∃ wo, wo = wr := ⟨_, rfl⟩
        subst hwo
        have hszr : B ≤ wo.heap.size := by rw [hBB.out]; exact hB.size
        by_cases hlt2 : r < m
        · have hlt2' : (r : Int) < (m : Int) := by omega
          have h0L : 0 < L.length := by rw [hLh.out]; omega
          obtain ⟨ya, yc, c0, r0⟩ := (HD.out _ hB).get h0L
          rw [Nat.add_zero] at c0
          obtain ⟨n, hn⟩ : ∃ n, Hid (n = (ro L 0).length) := ⟨_, rfl⟩
          have hn3 : n ≤ 300 := by rw [hn.out]; exact hSk.out 0
          rw [← hn.out] at c0 r0
          have h0k : (0 : Int) < (k : Int) := by omega
          have hdw : db < wo.heap.size := by omega
          have hbw : b < wo.heap.size := by omega
          have hBg : B ≤ wo.heap.size := hszr
          have HLen : Hid ((L ++ mkL r (parR k F L)).length = k + r) := by show _ = _; rw [List.length_append, mkL_length, hLh.out]
          obtain ⟨av, cv, ev⟩ := hO.form
          rw [HLen.out] at ev
          subst ev
          clear r0
          go_wp2_with (at_make; go_loud (refine wpList_make_full _ rfl (.tmp 43) (.tmp 43) 36 rfl B 5 i0 (.int .u8 0) 1 Tryz.underlying36 hi hz0 hz1 _ _ _ _ n rfl rfl (by omega) (by omega) (by rw [hz2]; omega) (by unfold maxLen; omega) hszr ?_); intro w7 hown7 hgrow7)
          have R7 := RowF.made hown7
          have b7 : Below wo.heap.size wo w7 := (Below.refl _ _).grown hgrow7 (Nat.le_refl _) (fun q hq => by cases hq)
          clear hown7 hgrow7 c0
          obtain ⟨g, hg⟩ : ∃ g, Hid (g = wo.heap.size) := ⟨_, rfl⟩
          rw [← hg.out] at R7
          rw [← hg.out]
          have hgB : B ≤ g := by rw [hg.out]; exact hszr
          have hgr : wo.heap.size ≤ g := by rw [hg.out]; exact Nat.le_refl _
          have hbg : b ≠ g := by omega
          have hfg : fb ≠ g := by have := hg.out; omega
          have cf7 := (b7.cell (p := ⟨fb, 0, none⟩) hfl).trans cf
          have hfl7 : fb < w7.heap.size := Nat.lt_of_lt_of_le hfl b7.size
          have hB7 : Below B w0 w7 := hB.trans (b7.mono hszr)
          have HW : Hid (∀ j, j < k → ∃ xa xc, wo.cell? ⟨db, doff + j, none⟩ = some (.slice xa (ro L j).length xc) ∧ Rd wo (.slice xa (ro L j).length xc) (ro L j)) := fun j hj => (HD.out _ hB).get (by rw [hLh.out]; exact hj)
          have hO' : Hid _ := hO
          clear hO
          go_loopw [47] (fun i w8 => ∃ j : Nat, j ≤ k ∧ i = .int .i64 j ∧ Only g w7 w8 ∧ RowF w8 B 5 g n n (wd F L r j)) (fun i _ => k - (intOf i).toNat)
          case atStart => exact ⟨0, by omega, rfl, Only.refl _ _, R7⟩
          case round =>
            obtain ⟨w8, hw8⟩ : ∃ w8, w8 = wr := ⟨_, rfl⟩
            subst hw8
            clear R7
            obtain ⟨j, hj2, rfl, hO8, R8⟩ := hrel
            have hB8 : Below B w0 w8 := hB7.trans (hO8.below hgB)
            have b8 : Below wo.heap.size wo w8 := b7.trans (hO8.below hgr)
            by_cases hlt3 : j < k
            · have hlt3' : (j : Int) < (k : Int) := by omega
              obtain ⟨xa, xc, cj, rj⟩ := HW.out j hlt3
              have hap : Apart g (.slice xa (ro L j).length xc) := rj.apart hgr
              have cj8 := (b8.cell (p := ⟨db, doff + j, none⟩) hdw).trans cj
              have rj8 := rj.below b8
              have X8 := HX.out _ hB8
              have x1 := X8.c1
              have x2 := X8.c2
              obtain ⟨T, hT⟩ : ∃ T, Hid (T = r * k + j) := ⟨_, rfl⟩
              have hTN : T < N := by rw [hT.out, hNm.out]; exact place_lt hlt2 hlt3
              have hNs : N ≤ 65536 := by rw [hNm.out]; exact mul_small (by omega) (by omega)
              obtain ⟨o', ho'⟩ : ∃ o', Hid (o' = r * k) := ⟨_, rfl⟩
              have hoT : o' + j = T := by rw [ho'.out, hT.out]
              have g1 : (r : Int) * (k : Int) = (o' : Int) := by rw [ho'.out]; exact_mod_cast rfl
              have g2 : (o' : Int) + (j : Int) = (T : Int) := by omega
              have v1 : IntKind.i64.wrap (o' : Int) = (o' : Int) := by rw [IntKind.wrap_i64]; omega
              have v2 : IntKind.i64.wrap (T : Int) = (T : Int) := by rw [IntKind.wrap_i64]; omega
              obtain ⟨ab, ao, eva, hab, ca⟩ := (HA.out _ hB8).byte (i := T) (by rw [flat_length, ← hNm.out]; exact hTN)
              have eT : co (flat m k F) T = F r j := by rw [hT.out]; exact en_flat F hlt2 hlt3
              rw [eT] at ca
              subst eva
              have hTN' : (T : Int) < (N : Int) := by omega
              have hlen : (ro L j).length = n := by rw [hn.out]; exact hEv.out j (by rw [hLh.out]; exact hlt3)
              rw [hlen] at cj8 rj8 hap
              have hF8 := HF.out _ hB8
              have cf8 := (hO8.cell (p := ⟨fb, 0, none⟩) hfg).trans cf7
              have hfl8 : fb < w8.heap.size := by rw [hO8.size]; exact hfl7
              have hlen' : Hid _ := hlen
              have hO8' : Hid _ := hO8
              have R8' : Hid _ := R8
              clear hlen cj rj X8 hB8 b8 eT hoT cf7 cf hO8 R8
              go_wp2_with fail
              refine (add1_any (F r j) hF8 hbg cf8 hfg hfl8 R8'.out rj8 hap hlen'.out (by omega) rfl).mono ?_
              rintro e w9 ⟨rfl, hO9, hR9⟩
              have HN1 : Hid (RowF w9 B 5 g n n (wd F L r (j + 1))) := hR9.congr fun t ht => by rw [wd_succ]; exact if_pos ht
              have HN2 : Hid (Only g w7 w9) := hO8'.out.trans hO9
              clear hO9 hR9 hF8 rj8 hap cj8 ca x1 x2 cf8 hfl8 hO8' R8'
              go_wp2
              go_roundw
              case rel => exact ⟨j + 1, by omega, by go_num, HN2.out, HN1.out⟩
              case measure => simp [intOf]; omega
            · have hge3 : ¬ (j : Int) < (k : Int) := by omega
              have ej : j = k := by omega
              rw [ej] at R8
              clear ej
              have hx8 := OwnP.rowF R8
              have eP : upto (wd F L r k) n = parR k F L r := by rw [hn.out]; rfl
              rw [eP] at hx8
              have cf8 := (hO8.cell (p := ⟨fb, 0, none⟩) hfg).trans cf7
              have hfl8 : fb < w8.heap.size := by rw [hO8.size]; exact hfl7
              have hS8 : wo.heap.size < w8.heap.size := by have := R8.lt.2; omega
              clear R8 cf7 cf eP
              go_wp2_with (at_builtin; go_loud (refine wpList_append_os rfl (.tmp 67) (.tmp 69) 106 rfl B 36 i1 Tryz.underlying106 hj hy0 hy1 hy2 5 (.slice av (k + r) cv) (L ++ mkL r (parR k F L)) rfl hO'.out b8 (.slice (some ⟨g, 0, none⟩) n n) (parR k F L r) hx8 (by intro q hq; cases hq; exact hgr) _ 1 rfl (by rw [HLen.out]; omega) hszr ?_); intro v' w9 hv9 hb9 hq9 hf9)
              have HOn : Hid (Os w9 B 36 5 v' (L ++ mkL (r + 1) (parR k F L))) := by
                show Os _ _ _ _ _ _
                rw [mkL_succ, ← List.append_assoc]; exact hv9
              have HBn : Hid (Below B w0 w9) := hB.trans hb9
              have HCn : Hid (w9.cell? ⟨fb, 0, none⟩ = some (.pointer (some ⟨b, 0, none⟩))) := (World.cell?_of_block (w := w8) (a := ⟨fb, 0, none⟩) (hq9 fb hfl8 hof)).trans cf8
              have HFn : Hid (v'.ownBlock ≠ some fb) := hf9 fb hfl8 hof
              have HLn : Hid (fb < w9.heap.size) := Nat.lt_of_lt_of_le hfl hb9.size
              clear hv9 hb9 hq9 hf9 hx8 cf8 hfl8 hB8 b8 hO8 hB hB7 b7 hO' hof
              go_wp2
              go_roundw
              case rel => exact ⟨r + 1, by omega, by go_num, HOn.out, HBn.out, HCn.out, HLn.out, HFn.out⟩
              case measure => simp [intOf]; omega
        · have hge2 : ¬ (r : Int) < (m : Int) := by omega
          have er : r = m := by omega
          rw [er] at hO
          have HR : Hid (FarL wo w.heap.size u7 (encL m k F L)) := ⟨_, _, hO.base (by omega)⟩
          have HBn : Hid (Below w.heap.size w wo) := HB0.out.trans (hB.mono (by omega))
          clear hO hB cf hof er
          go_wp2
          go_ret
          exact ⟨_, rfl, HR.out, HBn.out⟩
end Go.Proofs.YtddnfhfangfgeaaGreat.Gf

namespace Go.Proofs.YtddnfhfangfgeaaGreat.Gf
set_option linter.unusedVariables false
set_option linter.unusedSimpArgs false
open Go.RowKit
/-- the length that the first shard has; of none -1 -/
def fl (L : List (List UInt8)) : Int := if L.length = 0 then -1 else (((ro L 0).length : Nat) : Int)
theorem fl_pos {L : List (List UInt8)} (h : 0 < L.length) : fl L = (((ro L 0).length : Nat) : Int) := if_neg (by omega)
theorem even_nil : Even [] := fun i hi => by simp at hi
theorem Even.push {L : List (List UInt8)} {p : List UInt8} (h : Even L) (hp : 0 < L.length → p.length = (ro L 0).length) : Even (L ++ [p]) := by
  intro i hi
  rw [List.length_append] at hi
  simp at hi
  by_cases h0 : L.length = 0
  · have : L = [] := List.length_eq_zero_iff.1 h0
    subst this
    rw [show i = 0 by simp at hi; omega]
  · rw [ro_append_left (i := 0) (by omega)]
    by_cases e : i < L.length
    · rw [ro_append_left e]; exact h i e
    · rw [ro_append_right (by omega), show i - L.length = 0 by omega]; exact hp (by omega)
theorem fl_push {L : List (List UInt8)} {p : List UInt8} : fl (L ++ [p]) = if L.length = 0 then ((p.length : Nat) : Int) else fl L := by
  rw [fl_pos (by simp)]
  by_cases h0 : L.length = 0
  · rw [if_pos h0]
    have : L = [] := List.length_eq_zero_iff.1 h0
    subst this; rfl
  · rw [if_neg h0, ro_append_left (by omega), fl_pos (by omega)]
theorem Even.left {L M : List (List UInt8)} (h : Even (L ++ M)) : Even L := fun i hi => by
  have := h i (by rw [List.length_append]; omega)
  rwa [ro_append_left hi, ro_append_left (by omega)] at this
theorem take_push {M : List (List UInt8)} {k : Nat} (h : k < M.length) : M.take (k + 1) = M.take k ++ [ro M k] := by
  rw [List.take_add_one, ro_some h]; rfl
theorem Even.take {L M : List (List UInt8)} {k : Nat} (h : Even (L ++ M)) : Even (L ++ M.take k) := by
  have : L ++ M = (L ++ M.take k) ++ M.drop k := by rw [List.append_assoc, List.take_append_drop]
  rw [this] at h
  exact h.left
/-- where a shard has another length -/
theorem not_even {L M : List (List UInt8)} {k : Nat} (hk : k < M.length) (h0 : 0 < (L ++ M.take k).length) (hne : (ro M k).length ≠ (ro (L ++ M.take k) 0).length) : ¬ Even (L ++ M) := by
  intro h
  have h1 := h (L.length + k) (by rw [List.length_append]; omega)
  rw [ro_append_right (by omega), show L.length + k - L.length = k by omega] at h1
  apply hne
  rw [h1]
  have : L ++ M = (L ++ M.take k) ++ M.drop k := by rw [List.append_assoc, List.take_append_drop]
  rw [this, ro_append_left h0]
/-- the lists that were asked ahead of the list c -/
def ahead (A B : List (List UInt8)) (c : Nat) : List (List UInt8) := if c = 0 then [] else if c = 1 then A else A ++ B
def nth (A B : List (List UInt8)) (c : Nat) : List (List UInt8) := if c = 0 then A else B
theorem ahead_step {A B : List (List UInt8)} {c : Nat} (h : c < 2) : ahead A B c ++ nth A B c = ahead A B (c + 1) := by
  rcases c with _ | _ | c
  · rfl
  · rfl
  · omega
theorem ahead_all {A B : List (List UInt8)} {c : Nat} (h : c < 2) (hE : Even (A ++ B)) : Even (ahead A B c ++ nth A B c) := by
  rw [ahead_step h]
  rcases c with _ | _ | c
  · exact hE.left
  · exact hE
  · omega
set_option maxRecDepth 100000 in
set_option maxHeartbeats 2000000 in
theorem one_any {v0 v1 : Value} {A B : List (List UInt8)} {w : World} {g : Nat} (hA : Rs w v0 A) (hB : Rs w v1 B) (k0 : w.cell? ⟨g, 0, none⟩ = some v0) (k1 : w.cell? ⟨g, 1, none⟩ = some v1) :
    Calls Tryz.prog 160 #[.slice (some ⟨g, 0, none⟩) 2 2] w fun e w' => e = .returned (.bool (decide (Even (A ++ B)))) ∧ w' = w := by
  have hN : Hid (∀ c, c < 2 → ∃ a n, n = (nth A B c).length ∧ ∃ cap, w.cell? ⟨g, c, none⟩ = some (.slice a n cap) ∧ Rs w (.slice a n cap) (nth A B c)) := by
    intro c hc
    rcases c with _ | _ | c
    · obtain ⟨a, cap, rfl⟩ := hA.form; exact ⟨a, _, rfl, cap, k0, hA⟩
    · obtain ⟨a, cap, rfl⟩ := hB.form; exact ⟨a, _, rfl, cap, k1, hB⟩
    · omega
  clear hA hB k0 k1
  go_enter Tryz.func160, Tryz.ntmps160
  go_wp2
  go_step3
  go_wp2
  go_step3
  go_wp2
  go_loop [3, 4, 11] (fun x s i => ∃ c : Nat, c ≤ 2 ∧ i = .int .i64 c ∧ s = .bool true ∧ x = .int .i64 (fl (ahead A B c)) ∧ Hid (Even (ahead A B c))) (fun _ _ i => 2 - (intOf i).toNat)
  case atStart => exact ⟨0, by omega, rfl, rfl, rfl, even_nil⟩
  case round =>
    obtain ⟨c, hc, rfl, rfl, rfl, hE⟩ := hrel
    by_cases hlt : c < 2
    · obtain ⟨a, n, hn, cap, kc, hM⟩ := hN.out c hlt
      obtain ⟨M, hMM⟩ : ∃ M, Hid (M = nth A B c) := ⟨_, rfl⟩
      obtain ⟨J, hJ⟩ : ∃ J, Hid (J = ahead A B c) := ⟨_, rfl⟩
      rw [← hMM.out] at hM hn
      rw [← hJ.out] at hE ⊢
      subst hn
      have hml := hM.len
      unfold maxLen at hml
      have hlt' : (c : Int) < 2 := by omega
      go_wp2
      go_loop [3, 4, 17] (fun x s i => ∃ k : Nat, k ≤ M.length ∧ i = .int .i64 k ∧ s = .bool true ∧ x = .int .i64 (fl (J ++ M.take k)) ∧ Hid (Even (J ++ M.take k))) (fun _ _ i => M.length - (intOf i).toNat)
      case atStart => exact ⟨0, by omega, rfl, rfl, by simp, by simpa using hE⟩
      case round =>
        obtain ⟨k, hk, rfl, rfl, rfl, hE2⟩ := hrel
        clear hE
        by_cases hkm : k < M.length
        · obtain ⟨b, off, xa, xc, rfl, hb, c1, r1⟩ := hM.at hkm
          have hkm' : (k : Int) < (M.length : Int) := by omega
          by_cases h0 : (J ++ M.take k).length = 0
          · have e1 : fl (J ++ M.take k) = -1 := if_pos h0
            have e2 : Hid (fl (J ++ M.take (k + 1)) = (((ro M k).length : Nat) : Int)) := by
              show _ = _
              rw [take_push hkm, ← List.append_assoc, fl_push, if_pos h0]
            have e3 : Hid (Even (J ++ M.take (k + 1))) := by
              show Even _
              rw [take_push hkm, ← List.append_assoc]
              exact hE2.out.push fun h => by omega
            rw [e1]
            clear e1 h0 hE2 hM r1
            go_wp2
            go_round
            case rel => exact ⟨k + 1, by omega, by go_num, rfl, by rw [e2.out], e3⟩
            case measure => simp [intOf]; omega
          · have e1 : fl (J ++ M.take k) = (((ro (J ++ M.take k) 0).length : Nat) : Int) := fl_pos (by omega)
            have hneg : ¬ (((ro (J ++ M.take k) 0).length : Nat) : Int) < 0 := by omega
            by_cases e : (ro M k).length = (ro (J ++ M.take k) 0).length
            · have e2 : Hid (fl (J ++ M.take (k + 1)) = (((ro (J ++ M.take k) 0).length : Nat) : Int)) := by
                show _ = _
                rw [take_push hkm, ← List.append_assoc, fl_push, if_neg h0, e1]
              have e3 : Hid (Even (J ++ M.take (k + 1))) := by
                show Even _
                rw [take_push hkm, ← List.append_assoc]
                exact hE2.out.push fun h => e
              rw [e1]
              generalize (ro (J ++ M.take k) 0).length = f0 at *
              have hb : (((ro M k).length : Int) != (f0 : Int)) = false := by simp [e]
              clear e1 h0 hE2 hM r1 e
              go_wp2
              go_round
              case rel => exact ⟨k + 1, by omega, by go_num, rfl, by rw [e2.out], e3⟩
              case measure => simp [intOf]; omega
            · have E : Hid (decide (Even (A ++ B)) = false) := by
                refine decide_eq_false fun h => ?_
                have := ahead_all hlt h
                rw [← hJ.out, ← hMM.out] at this
                exact not_even hkm (by omega) e this
              rw [e1]
              generalize (ro (J ++ M.take k) 0).length = f0 at *
              have hb : (((ro M k).length : Int) != (f0 : Int)) = true := by simp; omega
              clear e1 h0 hE2 hM r1 e
              go_wp2
              go_ret
              exact ⟨by rw [E.out]; rfl, rfl⟩
        · have hge : ¬ (k : Int) < (M.length : Int) := by omega
          have hkk : k = M.length := by omega
          have e2 : Hid (J ++ M.take k = ahead A B (c + 1)) := by
            show _ = _
            rw [hkk, List.take_length, hJ.out, hMM.out]; exact ahead_step hlt
          rw [e2.out] at hE2 ⊢
          clear hM hkk
          go_wp2
          go_round
          case rel => exact ⟨c + 1, by omega, by go_num, rfl, rfl, hE2⟩
          case measure => simp [intOf]; omega
    · have hge : ¬ (c : Int) < 2 := by omega
      have E : Hid (decide (Even (A ++ B)) = true) := by
        rw [show c = 2 by omega] at hE
        exact decide_eq_true hE.out
      clear hN hE
      go_wp2
      go_ret
      exact ⟨by rw [E.out]; rfl, rfl⟩
end Go.Proofs.YtddnfhfangfgeaaGreat.Gf

namespace Go.Proofs.YtddnfhfangfgeaaGreat.Gf
set_option linter.unusedVariables false
set_option linter.unusedSimpArgs false
open Go.RowKit
/-- the shards are as many as there should be, and of one length -/
def OkS (A B : List (List UInt8)) (many : Int) : Prop := (A.length : Int) = many ∧ Even (A ++ B)
set_option maxRecDepth 100000 in
set_option maxHeartbeats 1000000 in
theorem chkd_ok {b : Nat} {k m : Nat} {many : Int} {v vo : Value} {A B : List (List UInt8)} {w : World} (hF : FieldAt w b) (h1 : 1 ≤ k) (h2 : k + m ≤ 256) (hA : Rs w v A) (hB : Rs w vo B) (h : OkS A B many) {x y : Int} (hx : x = (k : Int)) (hy : y = (m : Int)) :
    Calls Tryz.prog 129 #[.pointer (some ⟨b, 0, none⟩), .int .i64 x, .int .i64 y, .int .i64 many, v, vo] w (MakesM w m k (parF k)) := by
  subst hx hy
  obtain ⟨a1, c1, rfl⟩ := hA.form
  obtain ⟨a2, c2, rfl⟩ := hB.form
  go_enter Tryz.func129, Tryz.ntmps129
  have A0 : Below w.heap.size w (w.alloc (.cells #[.int .i64 0, .int .i64 0, .slice none 0 0] 148)) := (Below.refl _ _).alloc (Nat.le_refl _) _
  go_wp2_with fail
  refine (cpar_at k m (hF.below A0) h1 h2 rfl rfl).mono ?_
  rintro e w2 ⟨g, M, rfl, hg, hR, b2⟩
  simp at hg
  have X3 : Box w2 w.heap.size 0 0 (.slice none 0 0) := Below.box b2 (by simp <;> omega) (Box.new w 0 0 (.slice none 0 0) 148)
  have F3 : Free w2 w.heap.size := Below.free b2 (by simp <;> omega) (Free.new w #[.int .i64 0, .int .i64 0, .slice none 0 0] 148)
  have hs2 : w.heap.size < w2.heap.size := by have := b2.size; simp at this; omega
  have B2 : Below w.heap.size w w2 := Below.next A0 b2
  have hA2 := hA.below B2
  have hB2 := hB.below B2
  clear hF A0 b2 hA hB
  have x30 := X3.c0
  have x31 := X3.c1
  have x32 := X3.c2
  have f30 := F3.f0
  have f31 := F3.f1
  have f32 := F3.f2
  have hE : Hid (decide (Even (A ++ B)) = true) := decide_eq_true h.2
  have hb : ((A.length : Int) != many) = false := by simp [h.1]
  clear h
  go_wp2_with fail
  refine (one_any (A := A) (B := B) (hA2.below (by repeat (first | exact Below.refl _ _ | apply below_lit))) (hB2.below (by repeat (first | exact Below.refl _ _ | apply below_lit))) (by simp) (by simp)).mono ?_
  rintro e w3 ⟨rfl, rfl⟩
  rw [hE.out]
  clear hA2 hB2
  go_wp2
  have O1 : Only w.heap.size w2 (((w2.setCell ⟨w.heap.size, 0, none⟩ (.int .i64 (m : Int))).setCell ⟨w.heap.size, 1, none⟩ (.int .i64 (k : Int))).setCell ⟨w.heap.size, 2, none⟩ (.slice (some ⟨g, 0, none⟩) M M)) :=
    (((Only.refl _ _).setCell 0 _).setCell 1 _).setCell 2 _
  have R2 := hR.only (apart_block (g := w.heap.size) (by omega)) O1
  have B3 := B2.trans (O1.below (Nat.le_refl _))
  have s3 := O1.size
  refine bodyPost_ret (v := .tuple #[.agg #[.int .i64 (m : Int), .int .i64 (k : Int), .slice (some ⟨g, 0, none⟩) M M], .int .i64 0]) (by simp [results, Tryz.results129, go_sem, x30, x31, x32, f30, f31, f32, hs2]) rfl ⟨_, rfl, R2.below (by repeat (first | exact Below.refl _ _ | apply below_lit)), by repeat (first | exact B3 | apply below_lit)⟩
end Go.Proofs.YtddnfhfangfgeaaGreat.Gf

namespace Go.Proofs.YtddnfhfangfgeaaGreat.Gf
set_option linter.unusedVariables false
set_option linter.unusedSimpArgs false
open Go.RowKit
set_option maxRecDepth 100000 in
set_option maxHeartbeats 1000000 in
theorem enc_far {b : Nat} {k m : Nat} {v : Value} {L : List (List UInt8)} {w : World} (hF : FieldAt w b) (h1 : 1 ≤ k) (h2 : k + m ≤ 256) (h : Rs w v L) (hL : L.length = k) (hE : Even L) (hS : Small L) {x y : Int} (hx : x = (k : Int)) (hy : y = (m : Int)) :
    Calls Tryz.prog 89 #[.pointer (some ⟨b, 0, none⟩), .int .i64 x, .int .i64 y, v] w (MakesFar w 0 (encL m k (parF k) L)) := by
  subst hx hy
  go_enter Tryz.func89, Tryz.ntmps89
  go_wp2_with fail
  refine (chkd_ok hF h1 h2 h rs_none (B := []) ⟨by rw [hL], by rw [List.append_nil]; exact hE⟩ rfl rfl).mono ?_
  rintro e w2 ⟨vs, rfl, hR, b2⟩
  have A2 : Below w2.heap.size w2 (w2.alloc (.cells #[.int .i64 (m : Int), .int .i64 (k : Int), vs] 148)) := (Below.refl _ _).alloc (Nat.le_refl _) _
  have B2 : Below w.heap.size w (w2.alloc (.cells #[.int .i64 (m : Int), .int .i64 (k : Int), vs] 148)) := below_lit b2 _
  have HD := encd_far m k (parF k) (hF.below B2) (hR.below A2) h1 h2 (h.below B2) hL hE hS rfl rfl
  obtain ⟨va, vc, rfl⟩ := hR.form
  obtain ⟨da, dc, rfl⟩ := h.form
  clear hF h hR hE hS b2 A2 hL
  go_wp2_with fail
  refine HD.mono ?_
  rintro e w3 ⟨v', rfl, hR3, b3⟩
  replace hR3 := hR3.rebase B2.size
  have HB : Hid _ := Below.next B2 b3
  clear HD b3 B2
  obtain ⟨xa, xc, rfl⟩ := hR3.form
  go_wp2
  exact bodyPost_ret (v := .tuple #[.slice xa (encL m k (parF k) L).length xc, .int .i64 0]) (by simp [results, Tryz.results89, go_sem]) rfl ⟨_, rfl, hR3, HB.out⟩
end Go.Proofs.YtddnfhfangfgeaaGreat.Gf

namespace Go.Proofs.YtddnfhfangfgeaaGreat.Gf
set_option linter.unusedVariables false
set_option linter.unusedSimpArgs false
open Go.RowKit
/-- is the shard i there? -/
def hb (h : List Bool) (i : Nat) : Bool := h.getD i false
theorem hb_ge {h : List Bool} {i : Nat} (hi : h.length ≤ i) : hb h i = false := by simp [hb, List.getD, hi]
/-- of those that are there all are of one length -/
def EvenH (h : List Bool) (L : List (List UInt8)) : Prop := ∀ i j, hb h i = true → hb h j = true → (ro L i).length = (ro L j).length
/-- .. and short -/
def SmallH (h : List Bool) (L : List (List UInt8)) : Prop := L.length ≤ 300 ∧ ∀ i, hb h i = true → (ro L i).length ≤ 300
theorem Small.h {L : List (List UInt8)} (hS : Small L) (h : List Bool) : SmallH h L := ⟨hS.1, fun i _ => hS.2 i⟩
end Go.Proofs.YtddnfhfangfgeaaGreat.Gf

namespace Go.Proofs.YtddnfhfangfgeaaGreat.Gf
set_option linter.unusedVariables false
set_option linter.unusedSimpArgs false
open Go.RowKit
def RdB (w : World) (v : Value) (h : List Bool) : Prop :=
  ∃ (a : Option Addr) (cap : Nat), v = .slice a h.length cap ∧ h.length ≤ cap ∧ cap ≤ maxLen ∧ (a = none → cap = 0) ∧ ∀ i, i < h.length → ∃ b off, a = some ⟨b, off, none⟩ ∧ b < w.heap.size ∧ w.cell? ⟨b, off + i, none⟩ = some (.bool (hb h i))
theorem RdB.below {w w' : World} {v : Value} {h : List Bool} (r : RdB w v h) (hb : Below w.heap.size w w') : RdB w' v h := by
  obtain ⟨a, cap, h1, h2, h3, h4, h5⟩ := r
  refine ⟨a, cap, h1, h2, h3, h4, fun i hi => ?_⟩
  obtain ⟨b, off, k1, k2, k3⟩ := h5 i hi
  exact ⟨b, off, k1, Nat.lt_of_lt_of_le k2 hb.size, (hb.cell (p := ⟨b, off + i, none⟩) k2).trans k3⟩
theorem RdB.drewN {w : World} {v : Value} {h : List Bool} (r : RdB w v h) (n : Nat) : RdB (w.drewN n) v h := r
theorem RdB.form {w : World} {v : Value} {h : List Bool} (r : RdB w v h) : ∃ a c, v = .slice a h.length c := by
  obtain ⟨a, c, e, _⟩ := r
  exact ⟨a, c, e⟩
theorem RdB.len {w : World} {v : Value} {h : List Bool} (r : RdB w v h) : h.length ≤ maxLen := by
  obtain ⟨a, c, e, h1, h2, _⟩ := r
  omega
/-- a bool, as the walk meets it -/
theorem RdB.at {w : World} {a : Option Addr} {n c : Nat} {h : List Bool} (r : RdB w (.slice a n c) h) {i : Nat} (hi : i < h.length) : ∃ b off, a = some ⟨b, off, none⟩ ∧ b < w.heap.size ∧ w.cell? ⟨b, off + i, none⟩ = some (.bool (hb h i)) := by
  obtain ⟨a', c', e, h1, h2, h3, h4⟩ := r
  simp at e
  obtain ⟨rfl, rfl, rfl⟩ := e
  exact h4 i hi
theorem RdB.get {w : World} {b off n c : Nat} {h : List Bool} (r : RdB w (.slice (some ⟨b, off, none⟩) n c) h) {i : Nat} (hi : i < h.length) : w.cell? ⟨b, off + i, none⟩ = some (.bool (hb h i)) := by
  obtain ⟨b', off', e, _, h1⟩ := r.at hi
  simp at e
  obtain ⟨rfl, rfl⟩ := e
  exact h1
/-- a literal of bools -/
theorem rdB_lit {w : World} {n b : Nat} {cs : Array Value} {e : Nat} (h : List Bool) (hb0 : b = w.heap.size) (hn : h.length = n) (hs : cs.toList = h.map Value.bool) (hl : n ≤ 1000000) : RdB (w.alloc (.cells cs e)) (.slice (some ⟨b, 0, none⟩) n n) h := by
  subst hb0 hn
  refine ⟨some ⟨w.heap.size, 0, none⟩, h.length, rfl, Nat.le_refl _, by unfold maxLen; omega, nofun, fun i hi => ⟨w.heap.size, 0, rfl, by simp, ?_⟩⟩
  rw [Nat.zero_add, World.cell?_alloc_new, ← Array.getElem?_toList, hs, List.getElem?_map, List.getElem?_eq_getElem hi]
  simp [hb, List.getD, hi]
end Go.Proofs.YtddnfhfangfgeaaGreat.Gf

namespace Go.Proofs.YtddnfhfangfgeaaGreat.Gf
set_option linter.unusedVariables false
set_option linter.unusedSimpArgs false
open Go.RowKit
def vi (z : Nat) : Value := .int .i64 (z : Int)
def toI (zs : List Nat) : List Int := zs.map fun (z : Nat) => (z : Int)
theorem toI_length (zs : List Nat) : (toI zs).length = zs.length := by simp [toI]
theorem toI_getD (zs : List Nat) (i : Nat) : (toI zs).getD i 0 = ((zs.getD i 0 : Nat) : Int) := by
  unfold toI
  by_cases h : i < zs.length
  · simp [List.getD, h]
  · simp [List.getD, Nat.le_of_not_lt h]
/-- a row of places of the call's own -/
def OwnI (w : World) (base e : Nat) (v : Value) (zs : List Nat) : Prop := w.ownsRow base e 1 v zs.length (zs.map vi)
theorem OwnI.form {w : World} {base e : Nat} {v : Value} {zs : List Nat} (h : OwnI w base e v zs) : ∃ a c, v = .slice a zs.length c := owns_form h
theorem OwnI.cell {w : World} {base e : Nat} {a : Option Addr} {n c : Nat} {zs : List Nat} (h : OwnI w base e (.slice a n c) zs) {i : Nat} (hi : i < zs.length) : ∃ g, a = some ⟨g, 0, none⟩ ∧ g < w.heap.size ∧ base ≤ g ∧ w.cell? ⟨g, i, none⟩ = some (.int .i64 ((zs.getD i 0 : Nat) : Int)) := by
  have h' := h
  obtain ⟨_, ⟨e, hn⟩ | ⟨g, cap, cur, e, hg, hh, hc, hm, hs, ht⟩⟩ := h
  · omega
  · simp at e
    obtain ⟨rfl, rfl, rfl⟩ := e
    have hlt := World.ownsRow.lt h' g rfl
    refine ⟨g, rfl, hlt.2, hlt.1, ?_⟩
    rw [World.ownsRow.cellAt h' i (by omega), List.getElem?_map, List.getElem?_eq_getElem hi]
    simp [vi, List.getD, hi]
theorem OwnI.rd {w : World} {base e : Nat} {v : Value} {zs : List Nat} (h : OwnI w base e v zs) (hl : zs.length ≤ 1000000) : RdI w v (toI zs) := by
  obtain ⟨a, c, rfl⟩ := h.form
  by_cases h0 : zs = []
  · subst h0; exact Or.inl ⟨a, c, rfl, rfl⟩
  · have hpos : 0 < zs.length := List.length_pos_iff.2 h0
    obtain ⟨g, rfl, hg, _, _⟩ := h.cell hpos
    refine Or.inr ⟨g, 0, c, fun e => h0 (by unfold toI at e; simpa using e), by rw [toI_length], by rw [toI_length]; unfold maxLen; omega, hg, fun i hi => ?_⟩
    rw [toI_length] at hi
    obtain ⟨g', e, _, _, hc⟩ := h.cell hi
    simp at e
    subst e
    rw [Nat.zero_add, hc, toI_getD]
theorem OwnI.nil (w : World) (base e : Nat) : OwnI w base e (.slice none 0 0) [] := World.ownsRow_nil _ _ _ _
/-- a slice of places, as the walk meets it -/
theorem RdI.at {w : World} {a : Option Addr} {n c : Nat} {zs : List Int} (h : RdI w (.slice a n c) zs) {i : Nat} (hi : i < zs.length) : ∃ b off, a = some ⟨b, off, none⟩ ∧ b < w.heap.size ∧ w.cell? ⟨b, off + i, none⟩ = some (.int .i64 (zs.getD i 0)) := by
  rcases h with ⟨_, _, e, _⟩ | ⟨b, off, cap, _, e, _, hb, hc⟩
  · subst e; simp at hi
  · simp at e
    obtain ⟨rfl, rfl, rfl⟩ := e
    exact ⟨b, off, rfl, hb, hc i hi⟩
theorem RdI.get {w : World} {b off n c : Nat} {zs : List Int} (h : RdI w (.slice (some ⟨b, off, none⟩) n c) zs) {i : Nat} (hi : i < zs.length) : w.cell? ⟨b, off + i, none⟩ = some (.int .i64 (zs.getD i 0)) := by
  obtain ⟨b', off', e, _, h1⟩ := h.at hi
  simp at e
  obtain ⟨rfl, rfl⟩ := e
  exact h1
/-- 'append(s, x)' on places of the call's own, x laid as a list of one -/
theorem wpList_append_int {P : Program} {wr : World} {ops : Array Oper} {rest : List Oper} {o : Oper} {a : Act} {Q : Exit → Act → World → Prop} (hgd : o.guard = none) (s xo : Operand) (t : TypeId)
    (ho : o.op = .call { callee := .builtin .append, args := #[s, xo], argTypes := #[t, t] })
    (base e : Nat) (i : TypeInfo) (ht : P.underlying t = some (.slice e)) (hi : P.info? e = some i) (hz : i.zero = some (.int .i64 0)) (hsize : i.size = 1) (hby : i.bytes = 8)
    (v : Value) (zs : List Nat) (hs : a.eval s = v) (hO : OwnI wr base e v zs) (z : Nat) (et c : Nat) (hxo : a.eval xo = .slice (some ⟨wr.heap.size, 0, none⟩) 1 c) (hl : zs.length ≤ 100000) (hbase : base ≤ wr.heap.size)
    (h : ∀ v' w2, OwnI w2 base e v' (zs ++ [z]) → Below base wr w2 → wpList P ops Q rest (a.put o.dst v') w2) : wpList P ops Q (o :: rest) a (wr.alloc (.cells #[.int .i64 (z : Int)] et)) := by
  refine wpList_plain hgd fun K hK => ?_
  obtain ⟨v', w', hrun, h2, h3, _, h5⟩ := run_append_own_at (P := P) (wr.alloc (.cells #[.int .i64 (z : Int)] et)) base t o.type e i (.int .i64 0) 1 8 ht hi hz hsize hby rfl (by decide) v zs.length (zs.map vi) (World.ownsRow.alloc hO _) ⟨wr.heap.size, 0, none⟩ 1 c [vi z] rfl (by intro j y hj; rw [add_at, Nat.zero_add]; rcases j with _ | j <;> simp at hj; subst hj; simp [vi]) (by intro y hy; simp at hy; rw [hy]; rfl) (by unfold maxLen; omega) (by omega) (by simp; omega)
  unfold Oper.wp execOp
  simp only [ho, resolve, invoke, builtin, Sem.run_bind, Sem.run_pure, Result.andThen_ok, List.map_toArray, List.map_cons, List.map_nil, hs, hxo, hrun]
  refine hK _ _ (h v' w' ?_ ?_)
  · unfold OwnI
    rw [List.length_append, List.map_append]
    exact h2
  · exact ((Below.refl base wr).alloc hbase _).grown h3 (by simp; omega) (fun q hq => (World.ownsRow.lt hO q hq).1)
end Go.Proofs.YtddnfhfangfgeaaGreat.Gf





namespace Go.Proofs.YtddnfhfangfgeaaGreat.Gf
set_option linter.unusedVariables false
set_option linter.unusedSimpArgs false
open Go.RowKit
theorem OwnI.drewN {w : World} {base e : Nat} {v : Value} {zs : List Nat} (h : OwnI w base e v zs) (n : Nat) : OwnI (w.drewN n) base e v zs := h
end Go.Proofs.YtddnfhfangfgeaaGreat.Gf



namespace Go.Proofs.YtddnfhfangfgeaaGreat.Gf
set_option linter.unusedVariables false
set_option linter.unusedSimpArgs false
open Go.RowKit
theorem OwnI.cap {w : World} {base e : Nat} {a : Option Addr} {n c : Nat} {zs : List Nat} (h : OwnI w base e (.slice a n c) zs) : zs.length ≤ c ∧ c ≤ maxLen := by
  obtain ⟨_, ⟨e, hn⟩ | ⟨g, cap, cur, e, hg, hh, hc, hm, hs, ht⟩⟩ := h
  · simp at e; omega
  · simp at e
    obtain ⟨_, _, rfl⟩ := e
    exact ⟨hc, hm⟩
theorem RdI.first {w : World} {b off n c k : Nat} {zs : List Nat} (h : RdI w (.slice (some ⟨b, off, none⟩) n c) (toI zs)) (hk : k ≤ zs.length) (h0 : 0 < k) : RdI w (.slice (some ⟨b, off, none⟩) k c) (toI (zs.take k)) := by
  have hl : (toI (zs.take k)).length = k := by rw [toI_length, List.length_take]; omega
  rcases h with ⟨_, _, e, _⟩ | ⟨b', off', cap, h1, e, h2, h3, h4⟩
  · have := congrArg List.length e
    rw [toI_length, List.length_nil] at this
    omega
  · simp at e
    obtain ⟨⟨rfl, rfl⟩, rfl, rfl⟩ := e
    refine Or.inr ⟨b, off, c, fun q => by rw [q] at hl; simp at hl; omega, by rw [hl], by rw [hl]; rw [toI_length] at h2; omega, h3, fun i hi => ?_⟩
    rw [hl] at hi
    rw [h4 i (by rw [toI_length]; omega), toI_getD, toI_getD]
    simp [List.getD, List.getElem?_take_of_lt hi]
end Go.Proofs.YtddnfhfangfgeaaGreat.Gf



namespace Go.Proofs.YtddnfhfangfgeaaGreat.Gf
set_option linter.unusedVariables false
set_option linter.unusedSimpArgs false
open Go.RowKit
/-- one shard -/
theorem Rs.one {w : World} {b off n c : Nat} {L : List (List UInt8)} (h : Rs w (.slice (some ⟨b, off, none⟩) n c) L) {i : Nat} (hi : i < L.length) : Rs w (.slice (some ⟨b, off + i, none⟩) 1 (c - i)) [ro L i] := by
  have h1 := h.rest (k := i) (by omega) (L.length - i) rfl
  have h2 := h1.first (k := 1) (by rw [List.length_drop]; omega)
  refine h2.as ?_
  refine ro_ext (by rw [List.length_take, List.length_drop]; simp; omega) fun j hj => ?_
  rw [List.length_take, List.length_drop] at hj
  have e : j = 0 := by omega
  subst e
  rw [ro_take (by omega), ro_drop, Nat.add_zero]
  rfl
/-- bools of the call's own: the first n of f -/
def BoolF (w : World) (base e g n : Nat) (f : Nat → Bool) : Prop := w.ownsRow base e 1 (.slice (some ⟨g, 0, none⟩) n n) n ((List.range n).map fun i => Value.bool (f i))
theorem BoolF.made {w : World} {base e g n : Nat} (h : w.ownsRow base e 1 (.slice (some ⟨g, 0, none⟩) n n) n (madeCells (Value.cells (.bool false)) (n * 1)).toList) : BoolF w base e g n (fun _ => false) := by
  unfold BoolF
  have e1 : (madeCells (Value.cells (.bool false)) (n * 1)).toList = List.replicate n (.bool false) := by
    rw [Nat.mul_one]; exact toList_madeCells_one _ _
  rw [e1] at h
  have e2 : (List.range n).map (fun _ => Value.bool false) = List.replicate n (.bool false) := by
    rw [List.map_const']; simp
  rw [e2]; exact h
theorem BoolF.cell {w : World} {base e g n : Nat} {f : Nat → Bool} (h : BoolF w base e g n f) {j : Nat} (hj : j < n) : w.cell? ⟨g, j, none⟩ = some (.bool (f j)) := by
  rw [World.ownsRow.cellAt h j (by omega), List.getElem?_map, List.getElem?_range hj]; rfl
theorem BoolF.free {w : World} {base e g n : Nat} {f : Nat → Bool} (h : BoolF w base e g n f) (j : Nat) : w.frozen? ⟨g, j, none⟩ = false := World.ownsRow.frozenAt h j
theorem BoolF.lt {w : World} {base e g n : Nat} {f : Nat → Bool} (h : BoolF w base e g n f) : base ≤ g ∧ g < w.heap.size := World.ownsRow.lt h g rfl
theorem BoolF.store {w : World} {base e g n : Nat} {f f' : Nat → Bool} (h : BoolF w base e g n f) {j : Nat} (hj : j < n) (x : Bool) (hf : ∀ t, t < n → f' t = if t = j then x else f t) : BoolF (w.setCell ⟨g, j, none⟩ (.bool x)) base e g n f' := by
  have e1 := (World.ownsRow.stored h j (.bool x)).1
  unfold BoolF
  have e2 : ((List.range n).map fun i => Value.bool (f i)).set j (.bool x) = (List.range n).map fun i => Value.bool (f' i) := by
    refine List.ext_getElem (by simp) fun t h1 h2 => ?_
    simp at h2
    rw [List.getElem_set]
    by_cases e : t = j
    · subst e; simp [hf t h2]
    · rw [if_neg fun h : j = t => e h.symm]; simp [hf t h2, e]
  rw [← e2]; exact e1
theorem BoolF.rdB {w : World} {base e g n : Nat} {f : Nat → Bool} (h : BoolF w base e g n f) (hn : n ≤ 1000000) : RdB w (.slice (some ⟨g, 0, none⟩) n n) ((List.range n).map f) := by
  have hl : ((List.range n).map f).length = n := by simp
  refine ⟨some ⟨g, 0, none⟩, n, by rw [hl], by rw [hl]; exact Nat.le_refl _, by unfold maxLen; omega, nofun, fun i hi => ?_⟩
  rw [hl] at hi
  refine ⟨g, 0, rfl, h.lt.2, ?_⟩
  rw [Nat.zero_add, h.cell hi]
  simp [hb, List.getD, hi]
end Go.Proofs.YtddnfhfangfgeaaGreat.Gf

namespace Go.Proofs.YtddnfhfangfgeaaGreat.Gf
set_option linter.unusedVariables false
set_option linter.unusedSimpArgs false
/-- the product of the sums of the point i and the first n parity points, but i itself -/
def wpd (k i : Nat) : Nat → UInt8
  | 0 => 1
  | n + 1 => if k + n = i then wpd k i n else mu (wpd k i n) (pt i ^^^ pt (k + n))
theorem wpd_self {k i n : Nat} (h : k + n = i) : wpd k i (n + 1) = wpd k i n := by rw [wpd, if_pos h]
theorem wpd_next {k i n : Nat} (h : k + n ≠ i) : wpd k i (n + 1) = mu (wpd k i n) (pt i ^^^ pt (k + n)) := by rw [wpd, if_neg h]
theorem wpd_ne {k i n : Nat} (hk : k + n ≤ 256) (hi : i < 256) : wpd k i n ≠ 0 := by
  induction n with
  | zero => exact (by decide : (1 : UInt8) ≠ 0)
  | succ n ih =>
    have h := ih (by omega)
    by_cases e : k + n = i
    · rw [wpd_self e]; exact h
    · rw [wpd_next e]; exact mu_ne h (pt_ne hi (by omega) (fun x => e x.symm))
/-- the weight of the shard i -/
def wtF (k m i : Nat) : UInt8 := iv (wpd k i m)
theorem wiv_ne {a : UInt8} (h : a ≠ 0) : iv a ≠ 0 := fun e => by
  have := mu_iv h
  rw [e, mu_zero] at this
  cases this
theorem wtF_ne {k m i : Nat} (h : k + m ≤ 256) (hi : i < 256) : wtF k m i ≠ 0 := wiv_ne (wpd_ne h hi)
/-- a number times a point's powers, as it goes on -/
def nmF (a p : UInt8) : Nat → UInt8
  | 0 => a
  | n + 1 => mu (nmF a p n) p
theorem nmF_pwr (a p : UInt8) (n : Nat) : nmF a p n = mu a (nmF 1 p n) := by
  induction n with
  | zero => exact (mu_one a).symm
  | succ n ih => rw [nmF, ih, nmF, mu_assoc]
/-- the syndrome of l -/
def synF (k m : Nat) (z : Nat → UInt8) (l : Nat) : UInt8 := S (k + m) (fun i => mu (mu (z i) (wtF k m i)) (nmF 1 (pt i) l))
theorem synF_congr {k m l : Nat} {z y : Nat → UInt8} (h : ∀ i, i < k + m → z i = y i) : synF k m z l = synF k m y l := S_congr fun i hi => by rw [h i hi]
theorem synF_add {k m l : Nat} {z y x : Nat → UInt8} (h : ∀ i, i < k + m → x i = z i ^^^ y i) : synF k m x l = synF k m z l ^^^ synF k m y l := by
  unfold synF
  rw [← S_xor]
  exact S_congr fun i hi => by rw [h i hi, xor_mu, xor_mu]
theorem PF.mono' {k n : Nat} {f : UInt8 → UInt8} (h : PF k f) (hn : k ≤ n) : PF n f := by
  induction n with
  | zero => rw [Nat.le_zero.1 hn] at h; exact h
  | succ n ih =>
    by_cases e : k = n + 1
    · rw [← e]; exact h
    · exact (ih (by omega)).mono
theorem nm_PF (l : Nat) : PF (l + 1) (fun z => nmF 1 z l) := by
  induction l with
  | zero => exact PF.const 1
  | succ l ih => exact ⟨0, _, ih, fun z => by rw [zero_x]; exact mu_comm _ _⟩
/-- a polynomial's numbers -/
theorem PF.coef {k : Nat} {f : UInt8 → UInt8} (h : PF k f) : ∃ c : Nat → UInt8, ∀ z, f z = S k (fun l => mu (c l) (nmF 1 z l)) := by
  induction k generalizing f with
  | zero => exact ⟨fun _ => 0, h⟩
  | succ k ih =>
    obtain ⟨a, g, hg, hz⟩ := h
    obtain ⟨c, hc⟩ := ih hg
    refine ⟨fun l => if l = 0 then a else c (l - 1), fun z => ?_⟩
    rw [S_head, hz z, hc z, mu_S]
    congr 1
    · show a = mu (if (0 : Nat) = 0 then a else _) (nmF 1 z 0)
      rw [if_pos rfl]; exact (mu_one a).symm
    · refine S_congr fun l hl => ?_
      show mu z (mu (c l) (nmF 1 z l)) = mu (if l + 1 = 0 then a else c (l + 1 - 1)) (nmF 1 z (l + 1))
      rw [if_neg (by omega), Nat.add_sub_cancel, nmF, mu_left, mu_comm z]
/-- .. so a word without syndromes is nought with each of them -/
theorem syn_poly {k m : Nat} {z : Nat → UInt8} (h : ∀ l, l < m → synF k m z l = 0) {g : UInt8 → UInt8} (hg : PF m g) : S (k + m) (fun i => mu (mu (z i) (wtF k m i)) (g (pt i))) = 0 := by
  obtain ⟨c, hc⟩ := hg.coef
  have e1 : S (k + m) (fun i => mu (mu (z i) (wtF k m i)) (g (pt i))) = S (k + m) (fun i => S m (fun l => mu (c l) (mu (mu (z i) (wtF k m i)) (nmF 1 (pt i) l)))) :=
    S_congr fun i hi => by rw [hc, mu_S]; exact S_congr fun l hl => mu_left _ _ _
  rw [e1, S_swap]
  refine S_zero fun l hl => ?_
  rw [← mu_S]
  have := h l hl
  unfold synF at this
  rw [this, mu_zero]
/-- the parity points -/
def qp (k n : Nat) : UInt8 := pt (k + n)
theorem wpd_data {k j n : Nat} (hj : j < k) : wpd k j n = PD (qp k) n (pt j) := by
  induction n with
  | zero => rfl
  | succ n ih => rw [wpd_next (by omega), ih, PD, mu_comm]; rfl
theorem wpd_par {k i n : Nat} : wpd k (k + i) n = PE (qp k) i n (pt (k + i)) := by
  induction n with
  | zero => rfl
  | succ n ih =>
    by_cases e : n = i
    · rw [wpd_self (by omega), ih, PE, if_pos e]
    · rw [wpd_next (by omega), ih, PE, if_neg e, mu_comm]; rfl
theorem PD_ne {k j n : Nat} (hj : j < k) (h : k + n ≤ 256) : PD (qp k) n (pt j) ≠ 0 := by rw [← wpd_data hj]; exact wpd_ne h (by omega)
/-- a data shard's weight times all parity points but one's polynomial -/
theorem wt_data {k m j i : Nat} (hj : j < k) (hi : i < m) (h : k + m ≤ 256) : mu (wtF k m j) (PE (qp k) i m (pt j)) = parF k i j := by
  unfold wtF parF
  have hne : pt j ^^^ pt (k + i) ≠ 0 := pt_ne (by omega) (by omega) (by omega)
  have e1 : PD (qp k) m (pt j) = mu (pt j ^^^ pt (k + i)) (PE (qp k) i m (pt j)) := (PE_mul (qp k) hi (pt j)).symm
  have hD := PD_ne (n := m) hj h
  have hE : PE (qp k) i m (pt j) ≠ 0 := fun e => hD (by rw [e1, e, mu_zero])
  rw [wpd_data hj, x_comm (pt (k + i))]
  have h1 := mu_iv hD
  have h2 := mu_iv hne
  -- both are the number whose product with the sum is 1
  have h3 : mu (pt j ^^^ pt (k + i)) (mu (iv (PD (qp k) m (pt j))) (PE (qp k) i m (pt j))) = 1 := by
    rw [mu_left, ← e1, mu_comm]; exact h1
  have h4 := congrArg (mu (iv (pt j ^^^ pt (k + i)))) h3
  rw [← mu_assoc, mu_comm (iv _) (pt j ^^^ _), h2, one_mu, mu_one] at h4
  exact h4
theorem wt_par {k m i : Nat} (hi : i < m) (h : k + m ≤ 256) : mu (wtF k m (k + i)) (PE (qp k) i m (pt (k + i))) = 1 := by
  unfold wtF
  rw [wpd_par, mu_comm]
  exact mu_iv (by rw [← wpd_par]; exact wpd_ne h (by omega))
/-- a polynomial out of its values at the parity points -/
theorem lagrange {k m : Nat} (h : k + m ≤ 256) {g : UInt8 → UInt8} (hg : PF m g) (z : UInt8) : g z = S m (fun i => mu (mu (g (qp k i)) (wtF k m (k + i))) (PE (qp k) i m z)) := by
  have hf : PF m (fun z => g z ^^^ S m (fun i => mu (mu (g (qp k i)) (wtF k m (k + i))) (PE (qp k) i m z))) :=
    hg.add (PF.sum fun i hi => ((PE_deg (qp k) i m).1 hi).smul _)
  have := hf.roots (qp k) (fun i j hi hj hij e => hij (by have := pt_inj (by omega) (by omega) e; omega)) (fun n hn => ?_)
  · exact x_eq_zero.1 (this z)
  · show g (qp k n) ^^^ S m (fun i => mu (mu (g (qp k i)) (wtF k m (k + i))) (PE (qp k) i m (qp k n))) = 0
    rw [S_one hn (fun i hi hne => by rw [PE_other (qp k) hn (fun e => hne e.symm), mu_zero])]
    have e := wt_par (k := k) hn h
    show g (qp k n) ^^^ mu (mu (g (qp k n)) (wtF k m (k + n))) (PE (qp k) n m (pt (k + n))) = 0
    rw [mu_assoc, e, mu_one, x_self]
/-- .. and a word whose parity is that of its data has none -/
theorem par_syn {k m : Nat} {z : Nat → UInt8} (h : k + m ≤ 256) (hz : ∀ i, i < m → z (k + i) = S k (fun j => mu (parF k i j) (z j))) {l : Nat} (hl : l < m) : synF k m z l = 0 := by
  unfold synF
  rw [S_split]
  have hg : PF m (fun z => nmF 1 z l) := (nm_PF l).mono' (by omega)
  have e1 : S k (fun j => mu (mu (z j) (wtF k m j)) (nmF 1 (pt j) l)) = S m (fun i => mu (mu (z (k + i)) (wtF k m (k + i))) (nmF 1 (pt (k + i)) l)) := by
    have a1 : S k (fun j => mu (mu (z j) (wtF k m j)) (nmF 1 (pt j) l)) = S k (fun j => S m (fun i => mu (mu (nmF 1 (pt (k + i)) l) (wtF k m (k + i))) (mu (parF k i j) (z j)))) := S_congr fun j hj => by
      have := lagrange h hg (pt j)
      rw [this, mu_S]
      refine S_congr fun i hi => ?_
      rw [← wt_data hj hi h]
      show mu (mu (z j) (wtF k m j)) (mu (mu (nmF 1 (pt (k + i)) l) (wtF k m (k + i))) (PE (qp k) i m (pt j))) = _
      rw [mu_left, mu_assoc (z j), mu_comm (z j)]
    rw [a1, S_swap]
    refine S_congr fun i hi => ?_
    rw [← mu_S, ← hz i hi]
    simp only [mu_assoc, mu_comm, mu_left]
  rw [e1, x_self]
end Go.Proofs.YtddnfhfangfgeaaGreat.Gf



namespace Go.Proofs.YtddnfhfangfgeaaGreat.Gf
set_option linter.unusedVariables false
set_option linter.unusedSimpArgs false
open Go.RowKit
/-- the first bytes of a slice -/
theorem Rd.first {w : World} {b off n c k : Nat} {p : List UInt8} (h : Rd w (.slice (some ⟨b, off, none⟩) n c) p) (hk : k ≤ p.length) (h0 : 1 ≤ k) : Rd w (.slice (some ⟨b, off, none⟩) k c) (p.take k) := by
  rcases h with ⟨a, c', e, _⟩ | ⟨b', off', c', h1, h2, h3, h4, h5, h6⟩
  · subst e; simp at hk; omega
  · simp at h2
    obtain ⟨⟨rfl, rfl⟩, rfl, rfl⟩ := h2
    have hl : (p.take k).length = k := by rw [List.length_take]; omega
    refine Or.inr ⟨b, off, c, fun e => by rw [e] at hl; simp at hl; omega, by rw [hl], by omega, h4, h5, fun i hi => ?_⟩
    rw [hl] at hi
    rw [h6 i (by omega), co_take hi]
theorem Rd.place {w : World} {v : Value} {p : List UInt8} (h : Rd w v p) (h0 : 0 < p.length) : ∃ b off c, v = .slice (some ⟨b, off, none⟩) p.length c ∧ p.length ≤ c ∧ c ≤ maxLen := by
  rcases h with ⟨a, c', e, _⟩ | ⟨b', off', c', h1, h2, h3, h4, h5, h6⟩
  · subst e; simp at h0
  · exact ⟨b', off', c', h2, h3, h4⟩
end Go.Proofs.YtddnfhfangfgeaaGreat.Gf

