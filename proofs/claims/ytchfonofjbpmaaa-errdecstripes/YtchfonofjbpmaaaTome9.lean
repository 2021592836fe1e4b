/- TEXTS JOINED: PoSumInto, PoCodeA, PoTimes, PoCodeC, PoCodeD, KeCA, TuL. -/
import Derived.Test.YtchfonofjbpmaaaTome7
import Derived.Test.YtchfonofjbpmaaaTome2
import Derived.Deep.RegionWith
import Derived.Test.YtchfonofjbpmaaaTome8
import Derived.Test.YtchfonofjbpmaaaTome6
import Derived.Test.YtchfonofjbpmaaaTome3
/-
  THE PROGRAM's 'add' BY CONTRACT: terms are added, place by place, to a part of a row of the caller's own; nothing but that row turns.
-/


namespace Go.Proofs.Ytchfonofjbpmaaa.Gf
set_option linter.unusedVariables false
set_option linter.unusedSimpArgs false
open Go.RowKit

/-- q added to f, o places higher -/
def addAt (f : Nat → UInt8) (o : Nat) (q : List UInt8) (t : Nat) : UInt8 := f t ^^^ (if o ≤ t then co q (t - o) else 0)
/-- the first k numbers of it -/
def addK (f : Nat → UInt8) (o : Nat) (q : List UInt8) (k t : Nat) : UInt8 := f t ^^^ (if o ≤ t ∧ t < o + k then co q (t - o) else 0)
theorem addK_zero (f : Nat → UInt8) (o : Nat) (q : List UInt8) : addK f o q 0 = f := by
  funext t; unfold addK; rw [if_neg (by omega), x_zero]
theorem addK_whole (f : Nat → UInt8) (o : Nat) (q : List UInt8) : addK f o q q.length = addAt f o q := by
  funext t; unfold addK addAt
  by_cases h : o ≤ t
  · rw [if_pos h]
    by_cases h2 : t < o + q.length
    · rw [if_pos ⟨h, h2⟩]
    · rw [if_neg (by omega), co_ge (by omega)]
  · rw [if_neg h, if_neg (by omega)]
theorem addK_step (f : Nat → UInt8) (o : Nat) (q : List UInt8) (k t : Nat) : addK f o q (k + 1) t = if t = o + k then addK f o q k (o + k) ^^^ co q k else addK f o q k t := by
  by_cases e : t = o + k
  · subst e
    rw [if_pos rfl]
    unfold addK
    rw [if_pos (by omega), if_neg (by omega), x_zero, show o + k - o = k by omega]
  · rw [if_neg e]
    unfold addK
    by_cases h : o ≤ t ∧ t < o + k
    · rw [if_pos h, if_pos (by omega)]
    · rw [if_neg h, if_neg (by omega)]
def addAll (f : Nat → UInt8) (o : Nat) (ts : List (Value × List UInt8)) : Nat → UInt8 := ts.foldl (fun f x => addAt f o x.2) f
theorem addAll_step (f : Nat → UInt8) (o : Nat) (ts : List (Value × List UInt8)) {j : Nat} {x : Value × List UInt8} (h : ts[j]? = some x) : addAll f o (ts.take (j + 1)) = addAt (addAll f o (ts.take j)) o x.2 := by
  unfold addAll
  rw [List.take_add_one, h]
  simp

set_option maxRecDepth 100000 in
set_option maxHeartbeats 2000000 in
theorem sum_into {w : World} {base u g L C o n c tb tc : Nat} {f : Nat → UInt8} (ts : List (Value × List UInt8)) (hR : RowF w base u g L C f) (ho : o + n ≤ L) (hn : n ≤ 140737488355328) (hL : L ≤ 140737488355328) (htb : tb ≠ g) (htl : ts.length ≤ 1000)
    (hts : ∀ j x, ts[j]? = some x → w.cell? ⟨tb, j, none⟩ = some x.1 ∧ Rd w x.1 x.2 ∧ Apart g x.1 ∧ x.2.length ≤ n) :
    Calls Try.prog 89 #[.slice (some ⟨g, o, none⟩) n c, .slice (some ⟨tb, 0, none⟩) ts.length tc] w fun e w' => e = .returned (.tuple #[]) ∧ Only g w w' ∧ RowF w' base u g L C (addAll f o ts) := by
  go_enter Try.func89, Try.ntmps89
  go_wp2
  go_loopw [9] (fun i wr => ∃ j : Nat, j ≤ ts.length ∧ i = .int .i64 j ∧ Only g w wr ∧ RowF wr base u g L C (addAll f o (ts.take j))) (fun i _ => ts.length - (intOf i).toNat)
  case atStart => exact ⟨0, by omega, rfl, Only.refl _ _, hR⟩
  case round =>
    obtain ⟨j, hj, rfl, hO, hRj⟩ := hrel
    clear hR
    by_cases hlt : j < ts.length
    · obtain ⟨x, hx⟩ : ∃ x, ts[j]? = some x := ⟨_, List.getElem?_eq_getElem hlt⟩
      obtain ⟨c0, hrd, hap, hxl⟩ := hts j x hx
      have HS := addAll_step f o ts hx
      have HS' : Hid _ := HS
      obtain ⟨v, q⟩ := x
      clear HS hts hx
      have c1 : wr.cell? ⟨tb, j, none⟩ = some v := (hO.cell (p := ⟨tb, j, none⟩) htb).trans c0
      clear c0
      obtain ⟨fj, hfj⟩ : ∃ fj, fj = addAll f o (ts.take j) := ⟨_, rfl⟩
      rw [← hfj] at hRj HS'
      clear hfj
      have R0 : RowF wr base u g L C (addK fj o q 0) := by rw [addK_zero]; exact hRj
      clear hRj
      simp only at hrd hap hxl HS'
      rcases hrd with ⟨a, cc, rfl, rfl, hc, hnn⟩ | ⟨b, off, cc, hq0, rfl, h1, h2, h3, hqc⟩
      · go_wp2
        go_loopw [15] (fun i w2 => i = .int .i64 0 ∧ w2 = wr) (fun _ _ => 0)
        case atStart => exact ⟨rfl, rfl⟩
        case round =>
          obtain ⟨rfl, rfl⟩ := hrel
          go_wp2
          go_roundw
          case rel => exact ⟨j + 1, by omega, by go_num, hO, by rw [HS'.out, ← addK_whole]; exact R0⟩
          case measure => simp [intOf]; omega
      · have hb : b ≠ g := by
          rcases hap _ _ _ rfl with e | e
          · exact absurd (List.length_eq_zero_iff.1 e) hq0
          · exact e
        clear hap
        go_wp2
        go_loopw [15] (fun i w2 => ∃ l : Nat, l ≤ q.length ∧ i = .int .i64 l ∧ Only g w w2 ∧ RowF w2 base u g L C (addK fj o q l)) (fun i _ => q.length - (intOf i).toNat)
        case atStart => exact ⟨0, by omega, rfl, hO, R0⟩
        case round =>
          obtain ⟨l, hll, rfl, hO2, hR2⟩ := hrel
          clear R0 hO c1
          by_cases hl3 : l < q.length
          · obtain ⟨t, ht⟩ : ∃ t, Hid (t = o + l) := ⟨_, rfl⟩
            have ht' := ht.out
            have htl2 : t < L := by omega
            have k1 := hR2.cell htl2
            have f1 := hR2.unfrozen t
            have k3 := (hO2.cell (p := ⟨b, off + l, none⟩) hb).trans (hqc l hl3)
            have E := xor_u8 (addK fj o q l t) (co q l)
            have N1 : Hid (RowF (wr.setCell ⟨g, t, none⟩ (.int .u8 (((addK fj o q l t).toNat ^^^ (co q l).toNat : Nat) : Int))) base u g L C (addK fj o q (l + 1))) := by
              rw [← UInt8.toNat_xor]; exact hR2.store htl2 _ (by rw [ht']; exact addK_step fj o q l)
            have N2 : Hid (Only g w (wr.setCell ⟨g, t, none⟩ (.int .u8 (((addK fj o q l t).toNat ^^^ (co q l).toNat : Nat) : Int)))) := hO2.setCell t _
            rw [ht'] at k1 f1 E N1 N2
            clear hqc hR2 hO2 ht ht' htl2
            go_wp2
            go_region
            go_wp2
            go_roundw
            case rel => exact ⟨l + 1, by omega, by go_num, N2.out.drew, N1.out.drew⟩
            case measure => simp [intOf]; omega
          · have e : l = q.length := by omega
            subst e
            clear hqc
            go_wp2
            go_roundw
            case rel => exact ⟨j + 1, by omega, by go_num, hO2, by rw [HS'.out, ← addK_whole]; exact hR2⟩
            case measure => simp [intOf]; omega
    · have e : j = ts.length := by omega
      subst e
      rw [List.take_length] at hRj
      clear hts
      go_wp2
      go_end0
      exact ⟨rfl, hO, hRj⟩

/-- the same where the list of terms has just been made -/
theorem sum_terms {w : World} {base u g L C o n c k kc : Nat} {f : Nat → UInt8} {tt : TypeId} {cs : Array Value} (ts : List (Value × List UInt8)) (hR : RowF w base u g L C f) (ho : o + n ≤ L) (hL : L ≤ 140737488355328) (hcs : cs.toList = ts.map (·.1)) (hk : k = ts.length) (htl : ts.length ≤ 1000)
    (hts : ∀ x ∈ ts, Rd w x.1 x.2 ∧ Apart g x.1 ∧ x.2.length ≤ n) :
    Calls Try.prog 89 #[.slice (some ⟨g, o, none⟩) n c, .slice (some ⟨w.heap.size, 0, none⟩) k kc] (w.alloc (.cells cs tt)) fun e w' => e = .returned (.tuple #[]) ∧ Only g (w.alloc (.cells cs tt)) w' ∧ RowF w' base u g L C (addAll f o ts) := by
  subst hk
  have hB : Below w.heap.size w (w.alloc (.cells cs tt)) := (Below.refl _ _).alloc (Nat.le_refl _) _
  have hg := hR.lt
  refine sum_into ts (hR.later hB) ho (by omega) hL (by omega) htl fun j x hx => ?_
  obtain ⟨h1, h2, h3⟩ := hts x (List.mem_of_getElem? hx)
  refine ⟨?_, h1.below hB, h2, h3⟩
  rw [World.cell?_alloc_new, ← Array.getElem?_toList, hcs, List.getElem?_map, hx]
  rfl

end Go.Proofs.Ytchfonofjbpmaaa.Gf

/-
  THE PROGRAM's 'Norm' AND 'Add' BY CONTRACT.
-/

namespace Go.Proofs.Ytchfonofjbpmaaa.Gf
set_option linter.unusedVariables false
set_option linter.unusedSimpArgs false
open Go.RowKit

theorem addAll_one (v : Value) (p : List UInt8) : addAll (fun _ => 0) 0 [(v, p)] = co p := by
  funext t
  simp [addAll, addAt]
theorem addAll_two (v v' : Value) (p q : List UInt8) : addAll (fun _ => 0) 0 [(v, p), (v', q)] = addF (co p) (co q) := by
  funext t
  simp [addAll, addAt, addF]

set_option maxRecDepth 100000 in
set_option maxHeartbeats 1000000 in
theorem pnorm_own {v : Value} {p : List UInt8} {w : World} (hp : Rd w v p) (hl : p.length ≤ 140737488355328) :
    Calls Try.prog 80 #[v] w fun e w' => e = .returned (.slice (some ⟨w.heap.size, 0, none⟩) (norm p).length (norm p).length) ∧ RowF w' w.heap.size 5 w.heap.size (norm p).length (norm p).length (co p) ∧ Below w.heap.size w w' := by
  obtain ⟨i0, hi, hz0, hz1, hz2⟩ := info_parts info_u8
  obtain ⟨ao, c, rfl⟩ := hp.form
  have hP := hp.part
  have hle := norm_length_le p
  have HC := co_norm p
  have HC' : Hid _ := HC
  clear HC
  go_enter Try.func80, Try.ntmps80
  go_wp2_with fail
  refine (top_any hp hl).mono ?_
  rintro e w ⟨rfl, rfl⟩
  obtain ⟨q, hq⟩ : ∃ q, q = norm p := ⟨_, rfl⟩
  rw [← hq] at hP hle HC'
  simp only [← hq]
  have HQ : Hid (q = norm p) := hq
  clear hq
  go_wp2_with (at_make; go_loud (refine wpList_make_full _ rfl (.tmp 7) (.tmp 7) 22 rfl w.heap.size 5 i0 (.int .u8 0) 1 Try.underlying22 hi hz0 hz1 _ _ _ _ q.length rfl rfl (by omega) (by omega) (by rw [hz2]; omega) (by unfold maxLen; omega) (Nat.le_refl _) ?_); intro w1 hown1 hgrow1)
  have R1 := RowF.made hown1
  have B1 : Below w.heap.size w w1 := (Below.refl _ _).grown hgrow1 (Nat.le_refl _) (fun k h => by cases h)
  clear hown1 hgrow1
  have hA : Apart w.heap.size (.slice ao q.length c) := hP.apart (Nat.le_refl _)
  have hP1 := hP.below B1
  go_wp2_with (go_at_call 89; refine (sum_terms [(.slice ao q.length c, q)] R1 (by omega) (by omega) rfl rfl (by simp) (by intro x hx; simp at hx; subst hx; exact ⟨hP1, hA, Nat.le_refl _⟩)).mono ?_; rintro e w' ⟨rfl, hO, hR⟩)
  go_ret
  rw [addAll_one, HC'.out] at hR
  exact ⟨by rw [← HQ.out]; rfl, by rw [← HQ.out]; exact hR, (below_lit B1 _).trans (hO.below (Nat.le_refl _))⟩

theorem pnorm_far {v : Value} {p : List UInt8} {w : World} (hp : Rd w v p) (hl : p.length ≤ 140737488355328) :
    Calls Try.prog 80 #[v] w (MakesF w (norm p)) := by
  refine (pnorm_own hp hl).mono ?_
  rintro e w' ⟨rfl, hR, hB⟩
  have e1 : upto (co p) (norm p).length = norm p := co_ext (upto_length _ _) fun i hi => by
    rw [upto_length] at hi; rw [co_norm]; exact co_map_range _ hi
  exact ⟨_, rfl, by have := hR.rd; rwa [e1] at this, hB, far_some (Nat.le_refl _)⟩
theorem pnorm_any {v : Value} {p : List UInt8} {w : World} (hp : Rd w v p) (hl : p.length ≤ 140737488355328) :
    Calls Try.prog 80 #[v] w (Makes w (norm p)) := (pnorm_far hp hl).mono fun _ _ h => h.plain

set_option maxRecDepth 100000 in
set_option maxHeartbeats 1000000 in
theorem padd_far {va vq : Value} {p q : List UInt8} {w : World} (hp : Rd w va p) (hq : Rd w vq q) (hl : p.length ≤ 400000) (hl2 : q.length ≤ 400000) :
    Calls Try.prog 112 #[va, vq] w (MakesF w (addP p q)) := by
  obtain ⟨i0, hi, hz0, hz1, hz2⟩ := info_parts info_u8
  obtain ⟨ao, c, rfl⟩ := hp.form
  obtain ⟨ao', c', rfl⟩ := hq.form
  obtain ⟨n, hn⟩ : ∃ n, (p.length < q.length ∧ n = q.length) ∨ (¬ p.length < q.length ∧ n = p.length) := by
    by_cases h : p.length < q.length
    · exact ⟨_, Or.inl ⟨h, rfl⟩⟩
    · exact ⟨_, Or.inr ⟨h, rfl⟩⟩
  have hpn : p.length ≤ n := by omega
  have hqn : q.length ≤ n := by omega
  have hnn : n ≤ 400000 := by omega
  have HN : Hid (norm (upto (addF (co p) (co q)) n) = addP p q) := norm_upto (((co_fin p).mono (by omega)).add ((co_fin q).mono (by omega))) (fin_add p q)
  have HU : Hid ((upto (addF (co p) (co q)) n).length = n) := upto_length _ _
  rcases hn with ⟨hlt, rfl⟩ | ⟨hlt, rfl⟩
  · go_enter Try.func112, Try.ntmps112
    go_wp2_with (at_make; go_loud (refine wpList_make_full _ rfl (.tmp 10) (.tmp 10) 22 rfl w.heap.size 5 i0 (.int .u8 0) 1 Try.underlying22 hi hz0 hz1 _ _ _ _ q.length rfl rfl (by omega) (by omega) (by rw [hz2]; omega) (by unfold maxLen; omega) (Nat.le_refl _) ?_); intro w1 hown1 hgrow1)
    have R1 := RowF.made hown1
    have B1 : Below w.heap.size w w1 := (Below.refl _ _).grown hgrow1 (Nat.le_refl _) (fun k h => by cases h)
    clear hown1 hgrow1
    have hA := hp.apart (Nat.le_refl _)
    have hA2 := hq.apart (Nat.le_refl _)
    have hP1 := hp.below B1
    have hQ1 := hq.below B1
    go_wp2_with fail
    refine (sum_terms [(.slice ao p.length c, p), (.slice ao' q.length c', q)] R1 (by omega) (by omega) rfl rfl (by simp) (by intro x hx; simp at hx; rcases hx with rfl | rfl; exact ⟨hP1, hA, hpn⟩; exact ⟨hQ1, hA2, hqn⟩)).mono ?_
    rintro e w' ⟨rfl, hO, hR⟩
    rw [addAll_two] at hR
    have B2 := (below_lit B1 _).trans (hO.below (Nat.le_refl _))
    have hRd := hR.rd
    clear hR hO hP1 hQ1
    have hRN := hRd.part
    go_wp2_with fail
    refine (top_any hRd (by rw [HU.out]; omega)).mono ?_
    rintro e w'' ⟨rfl, rfl⟩
    go_wp2
    go_ret
    rw [← HN.out]
    exact ⟨_, rfl, hRN, B2, far_some (Nat.le_refl _)⟩
  · go_enter Try.func112, Try.ntmps112
    go_wp2_with (at_make; go_loud (refine wpList_make_full _ rfl (.tmp 10) (.tmp 10) 22 rfl w.heap.size 5 i0 (.int .u8 0) 1 Try.underlying22 hi hz0 hz1 _ _ _ _ p.length rfl rfl (by omega) (by omega) (by rw [hz2]; omega) (by unfold maxLen; omega) (Nat.le_refl _) ?_); intro w1 hown1 hgrow1)
    have R1 := RowF.made hown1
    have B1 : Below w.heap.size w w1 := (Below.refl _ _).grown hgrow1 (Nat.le_refl _) (fun k h => by cases h)
    clear hown1 hgrow1
    have hA := hp.apart (Nat.le_refl _)
    have hA2 := hq.apart (Nat.le_refl _)
    have hP1 := hp.below B1
    have hQ1 := hq.below B1
    go_wp2_with fail
    refine (sum_terms [(.slice ao p.length c, p), (.slice ao' q.length c', q)] R1 (by omega) (by omega) rfl rfl (by simp) (by intro x hx; simp at hx; rcases hx with rfl | rfl; exact ⟨hP1, hA, hpn⟩; exact ⟨hQ1, hA2, hqn⟩)).mono ?_
    rintro e w' ⟨rfl, hO, hR⟩
    rw [addAll_two] at hR
    have B2 := (below_lit B1 _).trans (hO.below (Nat.le_refl _))
    have hRd := hR.rd
    clear hR hO hP1 hQ1
    have hRN := hRd.part
    go_wp2_with fail
    refine (top_any hRd (by rw [HU.out]; omega)).mono ?_
    rintro e w'' ⟨rfl, rfl⟩
    go_wp2
    go_ret
    rw [← HN.out]
    exact ⟨_, rfl, hRN, B2, far_some (Nat.le_refl _)⟩
theorem padd_any {va vq : Value} {p q : List UInt8} {w : World} (hp : Rd w va p) (hq : Rd w vq q) (hl : p.length ≤ 400000) (hl2 : q.length ≤ 400000) :
    Calls Try.prog 112 #[va, vq] w (Makes w (addP p q)) := (padd_far hp hq hl hl2).mono fun _ _ h => h.plain

end Go.Proofs.Ytchfonofjbpmaaa.Gf

/-
  THE PROGRAM's 'times' BY CONTRACT: each number times one, in a row of its own.
-/

namespace Go.Proofs.Ytchfonofjbpmaaa.Gf
set_option linter.unusedVariables false
set_option linter.unusedSimpArgs false
open Go.RowKit

/-- the first k multiples -/
def tk (q : Nat → UInt8) (a : UInt8) (k t : Nat) : UInt8 := if t < k then mu (q t) a else 0
theorem tk_zero (q : Nat → UInt8) (a : UInt8) (t : Nat) : tk q a 0 t = 0 := if_neg (by omega)
theorem tk_step (q : Nat → UInt8) (a : UInt8) (k t : Nat) : tk q a (k + 1) t = if t = k then mu (q k) a else tk q a k t := by
  unfold tk
  by_cases e : t = k
  · subst e; rw [if_pos (by omega), if_pos rfl]
  · rw [if_neg e]
    by_cases h2 : t < k
    · rw [if_pos h2, if_pos (by omega)]
    · rw [if_neg h2, if_neg (by omega)]
def mulBy (q : List UInt8) (a : UInt8) : List UInt8 := upto (fun t => mu (co q t) a) q.length
theorem mulBy_length (q : List UInt8) (a : UInt8) : (mulBy q a).length = q.length := upto_length _ _
theorem co_mulBy (q : List UInt8) (a : UInt8) (t : Nat) : co (mulBy q a) t = mu (co q t) a :=
  co_upto (k := q.length) (f := fun t => mu (co q t) a) (fun i hi => by show mu (co q i) a = 0; rw [co_ge hi, zero_mu]) t

set_option maxRecDepth 100000 in
set_option maxHeartbeats 1000000 in
theorem times_main (b b' off' c' : Nat) (q : List UInt8) (a : UInt8) (w : World) (hF : FieldAt w b) (hl : q.length ≤ 400000) (hb : b' < w.heap.size)
    (hqc : ∀ i, i < q.length → w.cell? ⟨b', off' + i, none⟩ = some (.int .u8 ((co q i).toNat : Nat))) :
    Calls Try.prog 90 #[.pointer (some ⟨b, 0, none⟩), .slice (some ⟨b', off', none⟩) q.length c', .int .u8 ((a.toNat : Nat) : Int)] w fun e w' =>
      e = .returned (.slice (some ⟨w.heap.size, 0, none⟩) q.length q.length) ∧ RowF w' w.heap.size 5 w.heap.size q.length q.length (fun t => mu (co q t) a) ∧ Below w.heap.size w w' := by
  obtain ⟨i0, hi, hz0, hz1, hz2⟩ := info_parts info_u8
  go_enter Try.func90, Try.ntmps90
  go_wp2_with (at_make; go_loud (refine wpList_make_full _ rfl (.tmp 10) (.tmp 10) 22 rfl w.heap.size 5 i0 (.int .u8 0) 1 Try.underlying22 hi hz0 hz1 _ _ _ _ q.length rfl rfl (by omega) (by omega) (by rw [hz2]; omega) (by unfold maxLen; omega) (Nat.le_refl _) ?_); intro w1 hown1 hgrow1)
  have R1 := RowF.made hown1
  have B1 : Below w.heap.size w w1 := (Below.refl _ _).grown hgrow1 (Nat.le_refl _) (fun k h => by cases h)
  clear hown1 hgrow1
  go_loopw [14] (fun i wr => ∃ k : Nat, k ≤ q.length ∧ i = .int .i64 k ∧ RowF wr w.heap.size 5 w.heap.size q.length q.length (tk (co q) a k) ∧ Below w.heap.size w wr) (fun i _ => q.length - (intOf i).toNat)
  case atStart => exact ⟨0, by omega, rfl, R1.congr (fun t _ => (tk_zero _ _ t).symm), B1⟩
  case round =>
    obtain ⟨k, hk, rfl, hR, hB⟩ := hrel
    clear R1 B1
    by_cases hlt : k < q.length
    · have c1 := (hB.cell (p := ⟨b', off' + k, none⟩) hb).trans (hqc k hlt)
      have hF1 := hF.below hB
      clear hqc
      go_wp2_with fail
      refine (fmu_at hF1 (co q k) a rfl rfl).mono ?_
      rintro e w2 ⟨rfl, hb2⟩
      have hR2 := hR.later hb2
      have hB2 := Below.next hB hb2
      have c2 := hR2.cell hlt
      have f1 := hR2.unfrozen k
      have N1 : Hid _ := hR2.store hlt (mu (co q k) a) (tk_step (co q) a k)
      have N2 : Hid _ := hB2.setCell (p := ⟨w.heap.size, k, none⟩) (Nat.le_refl _) (.int .u8 (((mu (co q k) a).toNat : Nat) : Int))
      clear hR hR2 hB hB2 hb2 hF1
      go_wp2
      go_roundw
      case rel => exact ⟨k + 1, by omega, by go_num, N1.out, N2.out⟩
      case measure => simp [intOf]; omega
    · have e : k = q.length := by omega
      subst e
      clear hqc
      go_wp2
      go_ret
      exact ⟨rfl, hR.congr (fun t ht => if_pos ht), hB⟩

set_option maxRecDepth 100000 in
set_option maxHeartbeats 1000000 in
theorem times_nil (v1 : Value) (ao : Option Addr) (c' : Nat) (y : Int) (w : World) :
    Calls Try.prog 90 #[v1, .slice ao 0 c', .int .u8 y] w fun e w' => e = .returned (.slice (some ⟨w.heap.size, 0, none⟩) 0 0) ∧ RowF w' w.heap.size 5 w.heap.size 0 0 (fun _ => 0) ∧ Below w.heap.size w w' := by
  obtain ⟨i0, hi, hz0, hz1, hz2⟩ := info_parts info_u8
  go_enter Try.func90, Try.ntmps90
  go_wp2_with (at_make; go_loud (refine wpList_make_full _ rfl (.tmp 10) (.tmp 10) 22 rfl w.heap.size 5 i0 (.int .u8 0) 1 Try.underlying22 hi hz0 hz1 _ _ _ _ 0 rfl rfl (by omega) (by omega) (by rw [hz2]; omega) (by unfold maxLen; omega) (Nat.le_refl _) ?_); intro w1 hown1 hgrow1)
  have R1 := RowF.made hown1
  have B1 : Below w.heap.size w w1 := (Below.refl _ _).grown hgrow1 (Nat.le_refl _) (fun k h => by cases h)
  clear hown1 hgrow1
  go_loop [14] (fun i => i = .int .i64 0) (fun _ => 0)
  case atStart => rfl
  case round =>
    subst hrel
    go_wp2
    go_ret
    exact ⟨rfl, R1, B1⟩

theorem times_any {b n c : Nat} {ao : Option Addr} {q : List UInt8} {w : World} (hF : FieldAt w b) (hq : Rd w (.slice ao n c) q) (hl : q.length ≤ 400000) (a : UInt8) {y : Int} (hy : y = ((a.toNat : Nat) : Int)) :
    Calls Try.prog 90 #[.pointer (some ⟨b, 0, none⟩), .slice ao n c, .int .u8 y] w fun e w' =>
      e = .returned (.slice (some ⟨w.heap.size, 0, none⟩) n n) ∧ Rd w' (.slice (some ⟨w.heap.size, 0, none⟩) n n) (mulBy q a) ∧ Below w.heap.size w w' := by
  subst hy
  have hn := hq.n
  subst hn
  rcases hq with ⟨a', c', rfl, e2, hc, hn⟩ | ⟨b', off', c', hp0, e2, h1, h2, h3, hqc⟩
  · refine (times_nil _ _ _ _ w).mono ?_
    rintro e w' ⟨rfl, hR, hB⟩
    exact ⟨rfl, hR.rd, hB⟩
  · simp at e2; obtain ⟨rfl, rfl⟩ := e2
    refine (times_main b b' off' _ q a w hF hl h3 hqc).mono ?_
    rintro e w' ⟨rfl, hR, hB⟩
    exact ⟨rfl, hR.rd, hB⟩

end Go.Proofs.Ytchfonofjbpmaaa.Gf

/-
  THE PROGRAM's 'Mul' BY CONTRACT.
-/

namespace Go.Proofs.Ytchfonofjbpmaaa.Gf
set_option linter.unusedVariables false
set_option linter.unusedSimpArgs false
open Go.RowKit

set_option maxRecDepth 100000 in
set_option maxHeartbeats 1000000 in
theorem pmul_nil {va vq : Value} {p q : List UInt8} {w : World} (hp : Rd w va p) (hq : Rd w vq q) (hl : p.length ≤ 400000) (hl2 : q.length ≤ 400000) :
    Calls Try.prog 59 #[.pointer none, va, vq] w (Makes w []) := by
  obtain ⟨ao, c, rfl⟩ := hp.form
  obtain ⟨ao', c', rfl⟩ := hq.form
  go_enter Try.func59, Try.ntmps59
  go_wp2_with fail
  refine (top_any hp (by omega)).mono ?_
  rintro e w ⟨rfl, rfl⟩
  go_wp2_with fail
  refine (top_any hq (by omega)).mono ?_
  rintro e w ⟨rfl, rfl⟩
  go_wp2
  go_ret
  exact ⟨_, rfl, rd_nil_any, Below.refl _ _⟩

theorem pmulP_empty {p q : List UInt8} (h : norm p = [] ∨ norm q = []) : mulP p q = [] := by
  have e := mulP_length p q
  rw [if_pos (by rcases h with h | h <;> simp [h])] at e
  exact List.length_eq_zero_iff.1 e

set_option maxRecDepth 100000 in
set_option maxHeartbeats 1000000 in
theorem pmul_empty {b : Nat} {va vq : Value} {p q : List UInt8} {w : World} (hp : Rd w va p) (hq : Rd w vq q) (hl : p.length ≤ 400000) (hl2 : q.length ≤ 400000) (h : norm p = [] ∨ norm q = []) :
    Calls Try.prog 59 #[.pointer (some ⟨b, 0, none⟩), va, vq] w (MakesF w (mulP p q)) := by
  rw [pmulP_empty h]
  obtain ⟨ao, c, rfl⟩ := hp.form
  obtain ⟨ao', c', rfl⟩ := hq.form
  have h' : (norm p).length = 0 ∨ ((norm p).length ≠ 0 ∧ (norm q).length = 0) := by
    by_cases h1 : (norm p).length = 0
    · exact Or.inl h1
    · rcases h with h | h
      · rw [h] at h1; exact absurd rfl h1
      · exact Or.inr ⟨h1, by rw [h]; rfl⟩
  clear h
  go_enter Try.func59, Try.ntmps59
  go_wp2_with fail
  refine (top_any hp (by omega)).mono ?_
  rintro e w ⟨rfl, rfl⟩
  go_wp2_with fail
  refine (top_any hq (by omega)).mono ?_
  rintro e w ⟨rfl, rfl⟩
  generalize (norm p).length = n at h' ⊢
  generalize (norm q).length = m at h' ⊢
  rcases h' with rfl | ⟨h1, rfl⟩
  · go_wp2
    go_ret
    exact ⟨_, rfl, rd_nil_any, Below.refl _ _, far_none⟩
  · have h2 : ((n : Int) == 0) = false := by simp; omega
    go_wp2
    go_ret
    exact ⟨_, rfl, rd_nil_any, Below.refl _ _, far_none⟩

theorem pc_step (v : Value) (p q : List UInt8) (k : Nat) : addAll (pc (co p) (co q) k) k [(v, mulBy q (co p k))] = pc (co p) (co q) (k + 1) := by
  funext t
  show pc (co p) (co q) k t ^^^ (if k ≤ t then co (mulBy q (co p k)) (t - k) else 0) = _
  rw [co_mulBy, mu_comm]
  rfl

set_option maxRecDepth 100000 in
set_option maxHeartbeats 2000000 in
theorem pmul_main {b : Nat} {va vq : Value} {p q : List UInt8} {w : World} (hF : FieldAt w b) (hp : Rd w va p) (hq : Rd w vq q) (hl : p.length ≤ 400000) (hl2 : q.length ≤ 400000) (h1 : norm p ≠ []) (h2 : norm q ≠ []) :
    Calls Try.prog 59 #[.pointer (some ⟨b, 0, none⟩), va, vq] w (MakesF w (mulP p q)) := by
  obtain ⟨i0, hi, hz0, hz1, hz2⟩ := info_parts info_u8
  obtain ⟨ao, c, rfl⟩ := hp.form
  obtain ⟨ao', c', rfl⟩ := hq.form
  have hP := hp.part
  have hQ := hq.part
  have hle := norm_length_le p
  have hle2 := norm_length_le q
  have hL := mulP_length p q
  have hpos : 0 < (norm p).length := List.length_pos_iff.2 h1
  have hpos2 : 0 < (norm q).length := List.length_pos_iff.2 h2
  rw [if_neg (by omega)] at hL
  have HM : Hid (upto (conv (co (norm p)) (co (norm q))) ((norm p).length + (norm q).length - 1) = mulP p q) := by
    show _ = _
    rw [co_norm, co_norm, ← hL]
    refine co_ext (upto_length _ _) fun i hi => ?_
    rw [upto_length] at hi
    rw [co_mulP]
    exact co_map_range _ hi
  go_enter Try.func59, Try.ntmps59
  go_wp2_with fail
  refine (top_any hp (by omega)).mono ?_
  rintro e w ⟨rfl, rfl⟩
  go_wp2_with fail
  refine (top_any hq (by omega)).mono ?_
  rintro e w ⟨rfl, rfl⟩
  generalize norm p = p' at *
  generalize norm q = q' at *
  clear hp hq h1 h2 hL
  obtain ⟨L, hL⟩ : ∃ L, Hid (L = p'.length + q'.length - 1) := ⟨_, rfl⟩
  rw [← hL.out] at HM
  have hL' := hL.out
  have g0 : ((p'.length : Int) == 0) = false := by rw [beq_eq_false_iff_ne]; omega
  have g1 : ((q'.length : Int) == 0) = false := by rw [beq_eq_false_iff_ne]; omega
  have g2 : (p'.length : Int) + (q'.length : Int) - 1 = (L : Int) := by omega
  clear hL'
  go_wp2_with (at_make; go_loud (refine wpList_make_full _ rfl (.tmp 30) (.tmp 30) 22 rfl w.heap.size 5 i0 (.int .u8 0) 1 Try.underlying22 hi hz0 hz1 _ _ _ _ L rfl rfl (by omega) (by omega) (by rw [hz2]; omega) (by unfold maxLen; omega) (Nat.le_refl _) ?_); intro w1 hown1 hgrow1)
  have R1 := RowF.made hown1
  have B1 : Below w.heap.size w w1 := (Below.refl _ _).grown hgrow1 (Nat.le_refl _) (fun k h => by cases h)
  clear hown1 hgrow1
  go_loopw [34] (fun i wr => ∃ k : Nat, k ≤ p'.length ∧ i = .int .i64 k ∧ RowF wr w.heap.size 5 w.heap.size L L (pc (co p') (co q') k) ∧ Below w.heap.size w wr) (fun i _ => p'.length - (intOf i).toNat)
  case atStart => exact ⟨0, by omega, rfl, R1.congr (fun t _ => rfl), B1⟩
  case round =>
    obtain ⟨k, hk, rfl, hR, hB⟩ := hrel
    clear R1 B1
    by_cases hlt : k < p'.length
    · rcases hP with ⟨a, cc, e1, e2, hc, hnn⟩ | ⟨bb, off, cc, hq0, e2, h1, h2, h3, hpc⟩
      · subst e1; simp at hlt
      · simp at e2; obtain ⟨rfl, rfl⟩ := e2
        have hLL := hL.out
        have c1 := (hB.cell (p := ⟨bb, off + k, none⟩) h3).trans (hpc k hlt)
        have hF1 : FieldAt wr.drew b := hF.below hB.drew
        have hQ1 : Rd wr.drew (.slice ao' q'.length c') q' := hQ.below hB.drew
        have hR1 := hR.drew
        have hlt2 := hR.lt
        have hAp : ∀ n c, Apart w.heap.size (.slice (some ⟨wr.drew.heap.size, 0, none⟩) n c) := fun n c => apart_block (by show wr.heap.size ≠ w.heap.size; omega)
        have hkl : k ≤ L := by omega
        have hkq : q'.length ≤ L - k := by omega
        have hkk : k + (L - k) ≤ L := by omega
        have hL9 : L ≤ 140737488355328 := by omega
        have HP : Hid _ := fun v => pc_step v p' q' k
        clear hpc hR hLL hlt2
        go_wp2
        go_region_with (first
          | (go_at_call 90; refine (times_any hF1 hQ1 (by omega) (co p' k) rfl).mono ?_; rintro e w2 ⟨rfl, hT, hb2⟩)
          | (go_at_call 89; refine (sum_terms [(_, mulBy q' (co p' k))] (hR1.later hb2) hkk hL9 rfl rfl (by simp) (by intro x hx; simp at hx; subst hx; exact ⟨hT, hAp _ _, by rw [mulBy_length]; exact hkq⟩)).mono ?_; rintro e w3 ⟨rfl, hO, hR3⟩))
        all_goals go_wp2
        all_goals
          go_roundw
          case rel => exact ⟨k + 1, by omega, by go_num, by rw [← HP.out _]; exact hR3, (below_lit (Below.next hB.drew hb2) _).trans (hO.below (Nat.le_refl _))⟩
          case measure => simp [intOf]; omega
    · have e : k = p'.length := by omega
      subst e
      rw [pc_whole (co_fin p')] at hR
      have hRd := hR.rd
      rw [HM.out] at hRd
      clear hR
      go_wp2
      go_ret
      exact ⟨_, rfl, hRd, hB, far_some (Nat.le_refl _)⟩

theorem pmul_far {b : Nat} {va vq : Value} {p q : List UInt8} {w : World} (hF : FieldAt w b) (hp : Rd w va p) (hq : Rd w vq q) (hl : p.length ≤ 400000) (hl2 : q.length ≤ 400000) :
    Calls Try.prog 59 #[.pointer (some ⟨b, 0, none⟩), va, vq] w (MakesF w (mulP p q)) := by
  by_cases h1 : norm p = []
  · exact pmul_empty hp hq hl hl2 (Or.inl h1)
  · by_cases h2 : norm q = []
    · exact pmul_empty hp hq hl hl2 (Or.inr h2)
    · exact pmul_main hF hp hq hl hl2 h1 h2
theorem pmul_any {b : Nat} {va vq : Value} {p q : List UInt8} {w : World} (hF : FieldAt w b) (hp : Rd w va p) (hq : Rd w vq q) (hl : p.length ≤ 400000) (hl2 : q.length ≤ 400000) :
    Calls Try.prog 59 #[.pointer (some ⟨b, 0, none⟩), va, vq] w (Makes w (mulP p q)) := (pmul_far hF hp hq hl hl2).mono fun _ _ h => h.plain

end Go.Proofs.Ytchfonofjbpmaaa.Gf

/-
  THE PROGRAM's 'Divide' BY CONTRACT.
-/



namespace Go.Proofs.Ytchfonofjbpmaaa.Gf
set_option linter.unusedVariables false
set_option linter.unusedSimpArgs false
open Go.RowKit

set_option maxRecDepth 100000 in
set_option maxHeartbeats 1000000 in
theorem pdivide_nil {va vq : Value} {p q : List UInt8} {w : World} (hp : Rd w va p) (hq : Rd w vq q) (hl : p.length ≤ 400000) (hl2 : q.length ≤ 400000) :
    Calls Try.prog 111 #[.pointer none, va, vq] w (MakesNone w 1) := by
  clear hp hq
  go_enter Try.func111, Try.ntmps111
  go_wp2
  go_ret3
  exact ⟨_, _, rfl, rd_nil_any, rd_nil_any, Below.refl _ _⟩

set_option maxRecDepth 100000 in
set_option maxHeartbeats 1000000 in
theorem pdivide_zero {b : Nat} {va vq : Value} {p q : List UInt8} {w : World} (hF : FieldAt w b) (hp : Rd w va p) (hq : Rd w vq q) (hl : p.length ≤ 400000) (hl2 : q.length ≤ 400000) (h0 : norm q = []) :
    Calls Try.prog 111 #[.pointer (some ⟨b, 0, none⟩), va, vq] w (MakesNone w 20) := by
  obtain ⟨ao', c', rfl⟩ := hq.form
  have hQ := top_any hq (by omega)
  rw [h0] at hQ
  clear hp hq
  go_enter Try.func111, Try.ntmps111
  go_wp2_with fail
  refine hQ.mono ?_
  rintro e w ⟨rfl, rfl⟩
  clear hQ
  go_wp2
  go_ret3
  exact ⟨_, _, rfl, rd_nil_any, rd_nil_any, Below.refl _ _⟩

theorem norm_upto_self (p : List UInt8) : upto (co p) (norm p).length = norm p := co_ext (upto_length _ _) fun i hi => by
  rw [upto_length] at hi; rw [co_norm]; exact co_map_range _ hi

set_option maxRecDepth 100000 in
set_option maxHeartbeats 1000000 in
theorem pdivide_less {b : Nat} {va vq : Value} {p q : List UInt8} {w : World} (hF : FieldAt w b) (hp : Rd w va p) (hq : Rd w vq q) (hl : p.length ≤ 400000) (hl2 : q.length ≤ 400000) (h0 : 0 < (norm q).length) (h1 : (norm p).length < (norm q).length) :
    Calls Try.prog 111 #[.pointer (some ⟨b, 0, none⟩), va, vq] w (MakesDivF w p q) := by
  have hdq := norm_length_le q
  have hdp := norm_length_le p
  have hpf : Fin0 (co p) (norm p).length := by rw [norm, mk_length]; exact deg_fin (co_fin p)
  have D0 : DivInv (co p) (co q) (fun _ => 0) (co p) (norm p).length (norm q).length 0 := DivInv.start hpf _ (by omega)
  have HD : Hid (IsDiv p q (mk (fun _ => 0) (norm p).length) (mk (co p) (norm p).length)) := div_done D0 rfl h0 hdp hpf
  have HN2 : Hid (mk (co p) (norm p).length = norm p) := by show _ = _; rw [← norm_of hpf (fun i => by rw [co_norm]), norm_norm]
  have HN1 : Hid (mk (fun _ => 0) (norm p).length = []) := by
    show _ = _
    rw [mk_same (n := (norm p).length) (m := 0) (f := fun _ => 0) (g := fun _ => 0) (fun _ _ => rfl) (fun _ _ => rfl) (fun _ => rfl)]; rfl
  have HU : Hid _ := norm_upto_self p
  clear D0 hpf
  obtain ⟨ao', c', rfl⟩ := hq.form
  have hm0 : (((norm q).length : Int) == 0) = false := by rw [beq_eq_false_iff_ne]; omega
  go_enter Try.func111, Try.ntmps111
  go_wp2_with fail
  refine (top_any hq (by omega)).mono ?_
  rintro e w ⟨rfl, rfl⟩
  go_wp2_with fail
  refine (pnorm_own hp (by omega)).mono ?_
  rintro e w1 ⟨rfl, hR, hB⟩
  have hRd := hR.rd
  rw [HU.out] at hRd
  clear hR
  go_wp2
  go_ret3
  refine ⟨_, _, _, _, rfl, HD.out, ?_, ?_, hB, far_none, far_some (Nat.le_refl _)⟩
  · rw [HN1.out]; exact rd_nil_any
  · rw [HN2.out]; exact hRd

theorem rk_all (v : Value) (fr : Nat → UInt8) (q : List UInt8) (c : UInt8) (i m : Nat) (hq : Fin0 (co q) m) : addAll fr i [(v, mulBy q c)] = rk fr (co q) c i m := by
  funext t
  show fr t ^^^ (if i ≤ t then co (mulBy q c) (t - i) else 0) = _
  unfold rk
  rw [co_mulBy, mu_comm]
  by_cases h : i ≤ t
  · rw [if_pos h]
    by_cases h2 : t < i + m
    · rw [if_pos ⟨h, h2⟩]
    · rw [if_neg (by omega), hq (t - i) (by omega), mu_zero]
  · rw [if_neg h, if_neg (by omega)]
theorem iv_ne {a : UInt8} (h : a ≠ 0) : iv a ≠ 0 := fun e => by
  have := mu_iv h
  rw [e, mu_zero] at this
  cases this
/-- what is told apart of the tops while a division goes on -/
def Tops (fs fr : Nat → UInt8) (L n i : Nat) : Prop := (i = 0 → fr (n - 1) ≠ 0) ∧ (0 < i → fs (L - 1) ≠ 0)
theorem Tops.step {fs fs' fr fr' : Nat → UInt8} {L n m i : Nat} {c d : UInt8} (h : Tops fs fr L n i) (hm : 0 < m) (hL : L = n - (m - 1)) (hi : i < L) (hd : d ≠ 0) (hc : c = mu (fr (L - 1 - i + m - 1)) d)
    (hs : ∀ t, fs' t = if t = L - 1 - i then c else fs t) : Tops fs' fr' L n (i + 1) := by
  refine ⟨fun e => by omega, fun _ => ?_⟩
  rw [hs]
  by_cases e : i = 0
  · subst e
    rw [if_pos (by omega), hc, show L - 1 - 0 + m - 1 = n - 1 by omega]
    exact mu_ne (h.1 rfl) hd
  · rw [if_neg (by omega)]
    exact h.2 (by omega)
theorem finv_at {b : Nat} {w : World} (hF : FieldAt w b) (a : UInt8) (ha : a ≠ 0) {x : Int} (hx : x = ((a.toNat : Nat) : Int)) :
    Calls Try.prog 79 #[.pointer (some ⟨b, 0, none⟩), .int .u8 x] w fun e w' => e = .returned (.tuple #[.int .u8 ((iv a).toNat : Nat), .int .i64 0]) ∧ ∃ n, w' = w.drewN n := by
  have h := inv_all hF a.toNat hx (u8_lt a)
  rw [zE_pos (u8_ne ha), ← iv_toNat] at h
  exact h

set_option maxRecDepth 100000 in
set_option maxHeartbeats 4000000 in
theorem pdivide_main {b : Nat} {va vq : Value} {p q : List UInt8} {w : World} (hF : FieldAt w b) (hp : Rd w va p) (hq : Rd w vq q) (hl : p.length ≤ 400000) (hl2 : q.length ≤ 400000) (h0 : 0 < (norm q).length) (h1 : (norm q).length ≤ (norm p).length) :
    Calls Try.prog 111 #[.pointer (some ⟨b, 0, none⟩), va, vq] w (MakesDivF w p q) := by
  obtain ⟨i0, hi, hz0, hz1, hz2⟩ := info_parts info_u8
  have hdq := norm_length_le q
  have hdp := norm_length_le p
  have hqt : co q ((norm q).length - 1) ≠ 0 := by rw [norm_length]; exact deg_top _ _ (by rw [← norm_length]; omega)
  have hpt : co p ((norm p).length - 1) ≠ 0 := by rw [norm_length]; exact deg_top _ _ (by rw [← norm_length]; omega)
  have hqf : Fin0 (co q) (norm q).length := by rw [norm, mk_length]; exact deg_fin (co_fin q)
  have hpf : Fin0 (co p) (norm p).length := by rw [norm, mk_length]; exact deg_fin (co_fin p)
  have hQ0 : ∃ bq oq, ∃ cq, vq = .slice (some ⟨bq, oq, none⟩) q.length cq ∧ bq < w.heap.size ∧ w.cell? ⟨bq, oq + ((norm q).length - 1), none⟩ = some (.int .u8 ((co q ((norm q).length - 1)).toNat : Nat)) := by
    rcases hq with ⟨a, c, rfl, _⟩ | ⟨bq, oq, cq, hp0, rfl, g1, g2, g3, hpc⟩
    · rw [show norm [] = [] from rfl] at h0; simp at h0
    · exact ⟨bq, oq, cq, rfl, g3, hpc _ (by omega)⟩
  obtain ⟨bq, oq, cq, rfl, hbq, cqt⟩ := hQ0
  have hQ := hq.part
  have hqf' : Hid (Fin0 (co (norm q)) (norm q).length) := by show Fin0 _ _; rw [co_norm]; exact hqf
  have HCN : Hid _ := co_norm q
  obtain ⟨q', hq'⟩ : ∃ q', Hid (q' = norm q) := ⟨_, rfl⟩
  obtain ⟨m, hm⟩ : ∃ m, Hid (m = (norm q).length) := ⟨_, rfl⟩
  obtain ⟨n, hn⟩ : ∃ n, Hid (n = (norm p).length) := ⟨_, rfl⟩
  rw [← hm.out] at h0 h1 hqt hqf hqf' hdq cqt hQ
  rw [← hq'.out] at hQ hqf' HCN
  rw [← hn.out] at h1 hpt hpf hdp
  have hql : Hid (q'.length = m) := by show _ = _; rw [hq'.out, hm.out]
  have hm0 : ((m : Int) == 0) = false := by rw [beq_eq_false_iff_ne]; omega
  have hnm : ¬ ((n : Int) < (m : Int)) := by omega
  obtain ⟨L, hL⟩ : ∃ L, Hid (L = n - (m - 1)) := ⟨_, rfl⟩
  have hL' := hL.out
  have gL : (n : Int) - ((m : Int) - 1) = (L : Int) := by omega
  have hLn : L ≤ n := by omega
  have hL0 : 0 < L := by omega
  have D0 : Hid (DivInv (co p) (co q) (fun _ => 0) (co p) n m L) := DivInv.start hpf L (by omega)
  have T0 : Hid (Tops (fun _ => 0) (co p) L n 0) := ⟨fun _ => hpt, fun h => by omega⟩
  clear hL'
  go_enter Try.func111, Try.ntmps111
  go_wp2_with fail
  refine (top_any hq (by omega)).mono ?_
  rintro e w ⟨rfl, rfl⟩
  simp only [← hm.out]
  go_wp2_with fail
  refine (pnorm_own hp (by omega)).mono ?_
  rintro e w1 ⟨rfl, R1, B1⟩
  simp only [← hn.out] at R1 ⊢
  have cqt1 := (B1.cell (p := ⟨bq, oq + (m - 1), none⟩) hbq).trans cqt
  have hF1 := hF.below B1
  obtain ⟨d, hd⟩ : ∃ d, Hid (d = iv (co q (m - 1))) := ⟨_, rfl⟩
  have hd0 : Hid (d ≠ 0) := by show _ ≠ _; rw [hd.out]; exact iv_ne hqt
  have hI := finv_at hF1 (co q (m - 1)) hqt rfl
  rw [← hd.out] at hI
  go_wp2_with fail
  refine hI.mono ?_
  rintro e w2 ⟨rfl, nd, hw2⟩
  have B12 : Below w1.heap.size w1 w2 := by rw [hw2]; exact below_draws _ _
  have R2 := R1.later B12
  have B2 := Below.next B1 B12
  have s2 := B2.size
  have l1 := R2.lt
  clear hI hw2 R1 B1 B12 hF1 cqt1
  go_wp2_with (at_make; go_loud (refine wpList_make_full _ rfl (.tmp 49) (.tmp 49) 22 rfl w.heap.size 5 i0 (.int .u8 0) 1 Try.underlying22 hi hz0 hz1 _ _ _ _ L rfl rfl (by omega) (by omega) (by rw [hz2]; omega) (by unfold maxLen; omega) s2 ?_); intro w3 hown3 hgrow3)
  have S3 := RowF.made hown3
  have B23 : Below w2.heap.size w2 w3 := (Below.refl _ _).grown hgrow3 (Nat.le_refl _) (fun k h => by cases h)
  have R3 := R2.later B23
  have B3 := Below.next B2 B23
  clear hown3 hgrow3 R2 B2 B23
  obtain ⟨gs, hgs⟩ : ∃ gs, gs = w2.heap.size := ⟨_, rfl⟩
  simp only [← hgs] at S3 ⊢
  have hne : w.heap.size ≠ gs := by omega
  have hge : w.heap.size ≤ gs := by omega
  clear hgs l1 s2
  go_loopw [53] (fun i wr => ∃ k : Nat, ∃ fs fr : Nat → UInt8, k ≤ L ∧ i = .int .i64 k ∧ Hid (DivInv (co p) (co q) fs fr n m (L - k)) ∧ Hid (Tops fs fr L n k) ∧ Hid (Fin0 fs L) ∧ Hid (Fin0 fr n) ∧ RowF wr w.heap.size 5 w.heap.size n n fr ∧ RowF wr w.heap.size 5 gs L L fs ∧ Below w.heap.size w wr) (fun i _ => L - (intOf i).toNat)
  case atStart => exact ⟨0, _, _, by omega, rfl, D0, T0, fun _ _ => rfl, hpf, R3, S3, B3⟩
  case round =>
    obtain ⟨k, fs, fr, hk, rfl, hD, hT, hFs, hFr, RR, RS, BB⟩ := hrel
    clear D0 T0 R3 S3 B3
    by_cases hlt : k < L
    · obtain ⟨i, hi2⟩ : ∃ i, Hid (i = L - 1 - k) := ⟨_, rfl⟩
      have hi' := hi2.out
      have hLL := hL.out
      have g1 : (L : Int) - 1 - (k : Int) = (i : Int) := by omega
      have hiL : i < L := by omega
      obtain ⟨t, ht⟩ : ∃ t, Hid (t = i + m - 1) := ⟨_, rfl⟩
      have ht' := ht.out
      have htn : t < n := by omega
      have g2 : (i : Int) + ((m : Int) - 1) = (t : Int) := by omega
      have hin : i ≤ n := by omega
      have hmn : m ≤ n - i := by omega
      have hii : i + (n - i) ≤ n := by omega
      have hn9 : n ≤ 140737488355328 := by omega
      have D1 := hD.out
      rw [show L - k = i + 1 by omega] at D1
      obtain ⟨c, hc⟩ : ∃ c, Hid (c = mu (fr t) d) := ⟨_, rfl⟩
      obtain ⟨fs', hfs⟩ : ∃ fs' : Nat → UInt8, ∀ t, fs' t = if t = i then c else fs t := ⟨fun t => if t = i then c else fs t, fun _ => rfl⟩
      have D2 : Hid (DivInv (co p) (co q) fs' (rk fr (co q) c i m) n m i) := by
        have := D1.step (fs' := fs') h0 hqf hqt (by omega) (by rw [← ht', ← hd.out, ← hc.out]; exact hfs)
        rw [← ht', ← hd.out, ← hc.out] at this
        exact this
      have T2 : Hid (Tops fs' (rk fr (co q) c i m) L n (k + 1)) := Tops.step (c := c) (d := d) hT.out h0 hLL hlt hd0.out (by rw [hc.out, ht', hi']) (by rw [← hi']; exact hfs)
      have F2 : Hid (Fin0 fs' L) := fun t htt => by rw [hfs, if_neg (by omega)]; exact hFs.out t htt
      have F3 : Hid (Fin0 (rk fr (co q) c i m) n) := fun t htt => by unfold rk; rw [if_neg (by omega), x_zero]; exact hFr.out t htt
      have HRK : Hid (∀ v, addAll fr i [(v, mulBy q' c)] = rk fr (co q) c i m) := fun v => by rw [← HCN.out]; exact rk_all v fr q' c i m hqf'.out
      have HFS : Hid _ := hfs
      have hki : Hid (L - (k + 1) = i) := by show _ = _; omega
      have c1 := RR.cell htn
      have hF1 := hF.below BB
      have hM := fmu_at hF1 (fr t) d rfl rfl
      rw [← hc.out] at hM
      clear hi' hLL ht' D1 hD hT hFs hFr hfs
      go_wp2_with fail
      refine hM.mono ?_
      rintro e w4 ⟨rfl, hb4⟩
      have RS4 := RS.later hb4
      have RR4 := RR.later hb4
      have BB4 := Below.next BB hb4
      have k1 := RS4.cell hiL
      have k2 := RS4.unfrozen i
      obtain ⟨w5, hw5⟩ : ∃ w5, w5 = w4.setCell ⟨gs, i, none⟩ (.int .u8 ((c.toNat : Nat) : Int)) := ⟨_, rfl⟩
      have RS5 : RowF w5 w.heap.size 5 gs L L fs' := by rw [hw5]; exact RS4.store hiL c HFS.out
      have RR5 : RowF w5 w.heap.size 5 w.heap.size n n fr := by rw [hw5]; exact RR4.other (a := ⟨gs, i, none⟩) hne _
      have BB5 : Below w.heap.size w w5 := by rw [hw5]; exact BB4.setCell (p := ⟨gs, i, none⟩) hge _
      have k3 := RS5.cell hiL
      have e1 : fs' i = c := by rw [HFS.out, if_pos rfl]
      rw [e1] at k3
      have hF5 : FieldAt w5.drew b := hF.below BB5.drew
      have hQ5 : Rd w5.drew (.slice (some ⟨bq, oq, none⟩) m cq) q' := hQ.below BB5.drew
      have RR6 := RR5.drew
      have RS6 := RS5.drew
      have l5 := RR5.lt
      have hAp : ∀ n c, Apart w.heap.size (.slice (some ⟨w5.drew.heap.size, 0, none⟩) n c) := fun n c => apart_block (by show w5.heap.size ≠ w.heap.size; omega)
      have hql5 : q'.length ≤ 400000 := by rw [hql.out]; omega
      have hqm : ∀ c, (mulBy q' c).length ≤ n - i := fun c => by rw [mulBy_length, hql.out]; exact hmn
      clear hM RS4 RR4 BB4 RS RR BB hF1 c1 hb4 e1
      go_wp2_with fail
      rw [← hw5]
      clear hw5 k1 k2
      go_region_with (first
        | (go_at_call 90; refine (times_any hF5 hQ5 hql5 c rfl).mono ?_; rintro e w6 ⟨rfl, hT6, hb6⟩)
        | (go_at_call 89; refine (sum_terms [(_, mulBy q' c)] (RR6.later hb6) hii hn9 rfl rfl (by simp) (by intro x hx; simp at hx; subst hx; exact ⟨hT6, hAp _ _, hqm c⟩)).mono ?_; rintro e w7 ⟨rfl, hO, hR7⟩))
      all_goals go_wp2
      all_goals
        go_roundw
        case rel => exact ⟨k + 1, fs', rk fr (co q) c i m, by omega, by go_num, by rw [hki.out]; exact D2, T2, F2, F3, by rw [← HRK.out _]; exact hR7, (((RS6.later hb6).later ((Below.refl _ _).alloc (Nat.le_refl _) _)).only hne.symm hO), (below_lit (Below.next BB5.drew hb6) _).trans (hO.below (Nat.le_refl _))⟩
        case measure => simp [intOf]; omega
    · have e : k = L := by omega
      subst e
      rw [Nat.sub_self] at hD
      have hDiv := div_done hD.out hm.out.symm h0 hdp hFr.out
      have hdeg : deg fs n = k := deg_unique hD.out.fin hFs.out (fun _ => hT.out.2 hL0)
      have HS : Hid (upto fs k = mk fs n) := by show _ = _; unfold upto mk; rw [hdeg]
      have HR : Hid (norm (upto fr n) = mk fr n) := norm_upto hFr.out hFr.out
      have r1 := RS.rd
      have r2 := RR.rd
      have r3 := r2.part
      have HDD : Hid _ := hDiv
      have HUL : Hid _ := upto_length fr n
      clear hDiv hdeg hD hT hFs hFr RS RR
      go_wp2_with fail
      refine (top_any r2 (by rw [HUL.out]; omega)).mono ?_
      rintro e wr ⟨rfl, rfl⟩
      go_wp2
      go_ret3
      refine ⟨_, _, mk fs n, mk fr n, rfl, HDD.out, ?_, ?_, BB, far_some hge, far_some (Nat.le_refl _)⟩
      · rw [← HS.out]; exact r1
      · rw [← HR.out]; exact r3

theorem pdivide_far {b : Nat} {va vq : Value} {p q : List UInt8} {w : World} (hF : FieldAt w b) (hp : Rd w va p) (hq : Rd w vq q) (hl : p.length ≤ 400000) (hl2 : q.length ≤ 400000) (h0 : norm q ≠ []) :
    Calls Try.prog 111 #[.pointer (some ⟨b, 0, none⟩), va, vq] w (MakesDivF w p q) := by
  have hpos : 0 < (norm q).length := List.length_pos_iff.2 h0
  by_cases h1 : (norm q).length ≤ (norm p).length
  · exact pdivide_main hF hp hq hl hl2 hpos h1
  · exact pdivide_less hF hp hq hl hl2 hpos (by omega)
theorem pdivide_any {b : Nat} {va vq : Value} {p q : List UInt8} {w : World} (hF : FieldAt w b) (hp : Rd w va p) (hq : Rd w vq q) (hl : p.length ≤ 400000) (hl2 : q.length ≤ 400000) (h0 : norm q ≠ []) :
    Calls Try.prog 111 #[.pointer (some ⟨b, 0, none⟩), va, vq] w (MakesDiv w p q) := (pdivide_far hF hp hq hl hl2 h0).mono fun _ _ h => h.plain

end Go.Proofs.Ytchfonofjbpmaaa.Gf

/-
  THE PROGRAM's 'power', 'turned', 'from', 'withTopOne', 'Locator' (package keyeq) BY CONTRACT.
-/





namespace Go.Proofs.Ytchfonofjbpmaaa.Gf
set_option linter.unusedVariables false
set_option linter.unusedSimpArgs false
open Go.RowKit

/-- x's power of n -/
def xpF (n i : Nat) : UInt8 := if i = n then 1 else 0
def xpL (n : Nat) : List UInt8 := upto (xpF n) (n + 1)
theorem xpL_length (n : Nat) : (xpL n).length = n + 1 := upto_length _ _
theorem co_xpL (n i : Nat) : co (xpL n) i = if i = n then 1 else 0 := co_upto (fun i hi => if_neg (by omega)) i

set_option maxRecDepth 100000 in
set_option maxHeartbeats 1000000 in
theorem kpow_any {w : World} {n : Nat} (hn : n ≤ 1000) {x : Int} (hx : x = (n : Int)) : Calls Try.prog 109 #[.int .i64 x] w (MakesF w (xpL n)) := by
  subst hx
  obtain ⟨i0, hi, hz0, hz1, hz2⟩ := info_parts info_u8
  go_enter Try.func109, Try.ntmps109
  obtain ⟨m, hm⟩ : ∃ m, Hid (m = n + 1) := ⟨_, rfl⟩
  have g0 : (n : Int) + 1 = (m : Int) := by have := hm.out; omega
  have hnm : n < m := by have := hm.out; omega
  have hm1 : m ≤ 1001 := by have := hm.out; omega
  have gw : IntKind.i64.wrap (m : Int) = (m : Int) := by rw [IntKind.wrap_i64]; omega
  go_wp2_with (at_make; go_loud (refine wpList_make_full _ rfl (.tmp 5) (.tmp 5) 22 rfl w.heap.size 5 i0 (.int .u8 0) 1 Try.underlying22 hi hz0 hz1 _ _ _ _ m rfl rfl (by omega) (by omega) (by rw [hz2]; omega) (by unfold maxLen; omega) (Nat.le_refl _) ?_); intro w1 hown1 hgrow1; have R1 := RowF.made hown1; have c1 := R1.cell hnm; have f1 := R1.unfrozen n)
  have B1 : Below w.heap.size w w1 := (Below.refl _ _).grown hgrow1 (Nat.le_refl _) (fun k h => by cases h)
  clear hown1 hgrow1
  have HN : Hid (RowF (w1.setCell ⟨w.heap.size, n, none⟩ (.int .u8 1)) w.heap.size 5 w.heap.size m m (xpF n)) := R1.store hnm 1 (fun s => rfl)
  have HB : Hid (Below w.heap.size w (w1.setCell ⟨w.heap.size, n, none⟩ (.int .u8 1))) := B1.setCell (p := ⟨w.heap.size, n, none⟩) (Nat.le_refl _) _
  clear R1 B1
  go_ret
  exact ⟨_, rfl, by have := HN.out.rd; rw [hm.out] at this; rw [hm.out]; exact this, HB.out, far_some (Nat.le_refl _)⟩

set_option maxRecDepth 100000 in
set_option maxHeartbeats 2000000 in
theorem kturn_any {w : World} {v : Value} {s : List UInt8} (hs : Rd w v s) (hl : s.length ≤ 1000) : Calls Try.prog 81 #[v] w (MakesF w s.reverse) := by
  obtain ⟨i0, hi, hz0, hz1, hz2⟩ := info_parts info_u8
  obtain ⟨a, c, rfl⟩ := hs.form
  obtain ⟨m, hm⟩ : ∃ m, Hid (m = s.length) := ⟨_, rfl⟩
  rw [← hm.out] at hs hl ⊢
  go_enter Try.func81, Try.ntmps81
  go_wp2_with (at_make; go_loud (refine wpList_make_full _ rfl (.tmp 7) (.tmp 7) 22 rfl w.heap.size 5 i0 (.int .u8 0) 1 Try.underlying22 hi hz0 hz1 _ _ _ _ m rfl rfl (by omega) (by omega) (by rw [hz2]; omega) (by unfold maxLen; omega) (Nat.le_refl _) ?_); intro w1 hown1 hgrow1)
  have R1 : Hid (RowF w1 w.heap.size 5 w.heap.size m m (fun _ => 0)) := RowF.made hown1
  have B1 : Hid (Below w.heap.size w w1) := (Below.refl _ _).grown hgrow1 (Nat.le_refl _) (fun k h => by cases h)
  clear hown1 hgrow1
  go_wp2
  go_loopw [11] (fun v wr => ∃ i : Nat, i ≤ m ∧ v = .int .i64 i ∧ RowF wr w.heap.size 5 w.heap.size m m (tnF s i) ∧ Below w.heap.size w wr) (fun v _ => m - (intOf v).toNat)
  case atStart => exact ⟨0, by omega, rfl, R1.out.congr fun j hj => (tnF_zero s (by rw [← hm.out]; exact hj)).symm, B1.out⟩
  case round =>
    obtain ⟨i, hi9, rfl, hR, hB⟩ := hrel
    clear R1 B1
    by_cases hlt : i < m
    · have hlt' : (i : Int) < (m : Int) := by omega
      obtain ⟨d, hd⟩ : ∃ d, Hid (d = m - 1 - i) := ⟨_, rfl⟩
      have gd : (m : Int) - 1 - (i : Int) = (d : Int) := by have := hd.out; omega
      have hdm : d < m := by have := hd.out; omega
      have hdm' : (d : Int) < (m : Int) := by omega
      have gw1 : IntKind.i64.wrap ((m : Int) - 1) = (m : Int) - 1 := by rw [IntKind.wrap_i64]; omega
      have gw2 : IntKind.i64.wrap (d : Int) = (d : Int) := by rw [IntKind.wrap_i64]; omega
      obtain ⟨sb, so, es, _, cs⟩ := (hs.below hB).byte (i := i) (by rw [← hm.out]; exact hlt)
      subst es
      have c1 := hR.cell hdm
      have f1 := hR.unfrozen d
      have HN : Hid (RowF (World.setCell wr ⟨w.heap.size, d, none⟩ (.int .u8 ((co s i).toNat : Nat))) w.heap.size 5 w.heap.size m m (tnF s (i + 1))) := hR.store hdm _ (fun j => by rw [tnF_step s (by rw [← hm.out]; exact hlt), ← hm.out, ← hd.out])
      have HB : Hid (Below w.heap.size w (World.setCell wr ⟨w.heap.size, d, none⟩ (.int .u8 ((co s i).toNat : Nat)))) := hB.setCell (p := ⟨w.heap.size, d, none⟩) (Nat.le_refl _) _
      clear hR hB hs
      go_wp2
      go_roundw
      case rel => exact ⟨i + 1, by omega, by go_num, HN.out, HB.out⟩
      case measure => simp [intOf]; omega
    · have hge : ¬ (i : Int) < (m : Int) := by omega
      have ei : i = m := by omega
      have Rt : Hid (Rd wr (.slice (some ⟨w.heap.size, 0, none⟩) m m) s.reverse) := by
        show Rd _ _ _
        rw [← tnF_all, ← hm.out, ← ei]
        have := hR.rd
        rw [ei] at this ⊢
        exact this
      clear ei hR hs
      go_wp2
      go_ret
      exact ⟨_, rfl, Rt.out, hB, far_some (Nat.le_refl _)⟩

theorem drop_far {w : World} {a : Option Addr} {n c m : Nat} {p : List UInt8} (h : Rd w (.slice a n c) p) (hm : p.length ≤ m) : p.drop m = [] := List.drop_eq_nil_of_le hm

set_option maxRecDepth 100000 in
set_option maxHeartbeats 1000000 in
theorem ktop_any {w : World} {b : Nat} {v : Value} {p : List UInt8} (hF : FieldAt w b) (hp : Rd w v p) (hl : p.length ≤ 1000) (h0 : p.length ≠ 0) (ht : co p (p.length - 1) ≠ 0) :
    Calls Try.prog 83 #[.pointer (some ⟨b, 0, none⟩), v] w (MakesF w (upto (fun j => mu (iv (co p (p.length - 1))) (co p j)) (p.length - 1 + 1))) := by
  rw [← mul_top h0 ht, mulP_comm]
  obtain ⟨pa, pcap, rfl⟩ := hp.form
  obtain ⟨bb, off, rfl, hbb, c1⟩ := hp.byte (i := p.length - 1) (by omega)
  obtain ⟨d, hd⟩ : ∃ d, Hid (d = p.length - 1) := ⟨_, rfl⟩
  rw [← hd.out] at c1 ht ⊢
  have gd : (p.length : Int) - 1 = (d : Int) := by have := hd.out; omega
  have hdl : d < p.length := by have := hd.out; omega
  have hdl' : (d : Int) < (p.length : Int) := by omega
  have gw : IntKind.i64.wrap (d : Int) = (d : Int) := by rw [IntKind.wrap_i64]; omega
  obtain ⟨y, hy⟩ : ∃ y, Hid (y = co p d) := ⟨_, rfl⟩
  rw [← hy.out] at c1 ht ⊢
  obtain ⟨z, hz⟩ : ∃ z, Hid (z = iv y) := ⟨_, rfl⟩
  rw [← hz.out]
  go_enter Try.func83, Try.ntmps83
  go_wp2_with fail
  refine (finv_at hF y ht rfl).mono ?_
  rintro e w1 ⟨rfl, n1, hw1⟩
  have B1 : Below w.heap.size w w1 := by rw [hw1]; exact below_draws _ _
  clear hw1
  rw [← hz.out]
  have HL : Hid (Rd (w1.alloc (.cells #[.int .u8 (z.toNat : Nat)] 5)) (.slice (some ⟨w1.heap.size, 0, none⟩) 1 1) [z]) := rd_lit (n := 1) [z] rfl rfl (by decide)
  go_wp2_with fail
  refine (pmul_far (hF.below (below_lit B1 _)) HL.out (hp.below (below_lit B1 _)) (by simp) (by omega)).mono ?_
  rintro e w2 ⟨v2, rfl, hr2, hb2, hf2⟩
  have HB : Hid (Below w.heap.size w w2) := Below.next (below_lit B1 _) hb2
  have hf3 : Far w.heap.size v2 := hf2.mono (by have := (below_lit B1 (.cells #[.int .u8 (z.toNat : Nat)] 5)).size; exact this)
  clear hb2 B1 hf2
  go_wp2
  go_ret
  exact ⟨_, rfl, hr2, HB.out, hf3⟩

set_option maxRecDepth 100000 in
set_option maxHeartbeats 2000000 in
theorem kloc_any {b : Nat} {v : Value} {s : List UInt8} {w : World} (hF : FieldAt w b) (hs : Rd w v s) (hl : s.length ≤ 300) : Calls Try.prog 52 #[.pointer (some ⟨b, 0, none⟩), v] w (MakesV w (locL s)) := by
  obtain ⟨a, c, rfl⟩ := hs.form
  go_enter Try.func52, Try.ntmps52
  go_wp2
  have B0 : Below w.heap.size w (w.alloc (.cells #[.int .u8 1] 5)) := (Below.refl _ _).alloc (Nat.le_refl _) _
  have R0 : Rd (w.alloc (.cells #[.int .u8 1] 5)) (.slice (some ⟨w.heap.size, 0, none⟩) 1 1) [1] := rd_lit (n := 1) [1] rfl rfl (by decide)
  go_loopw [5, 13] (fun o i wr => ∃ k : Nat, k ≤ s.length ∧ i = .int .i64 k ∧ Rd wr o (locN (co s) k) ∧ Below w.heap.size w wr) (fun _ i _ => s.length - (intOf i).toNat)
  case atStart => exact ⟨0, by omega, rfl, R0, B0⟩
  case round =>
    obtain ⟨k, hk, rfl, hR, hB⟩ := hrel
    clear R0 B0
    obtain ⟨av, cv, ev⟩ := hR.form
    rw [locN_length] at ev
    subst ev
    by_cases hlt : k < s.length
    · have hlt' : (k : Int) < (s.length : Int) := by omega
      obtain ⟨bb, off, rfl, _, c1⟩ := (hs.below hB).byte hlt
      obtain ⟨x, hx⟩ : ∃ x, Hid (x = co s k) := ⟨_, rfl⟩
      rw [← hx.out] at c1
      have HM : Hid (mulP [x, 1] (locN (co s) k) = locN (co s) (k + 1)) := by show _ = _; rw [hx.out, mulP_comm]; exact locN_succ _ _
      have HR : Hid _ := hR.below (w' := wr.alloc (.cells #[.int .u8 (x.toNat : Nat), .int .u8 1] 5)) ((Below.refl _ _).alloc (Nat.le_refl _) _)
      have HL : Hid (Rd (wr.alloc (.cells #[.int .u8 (x.toNat : Nat), .int .u8 1] 5)) (.slice (some ⟨wr.heap.size, 0, none⟩) 2 2) [x, 1]) := rd_lit (n := 2) [x, 1] rfl rfl (by decide)
      clear hs hR
      go_wp2_with fail
      refine (pmul_any (hF.below (below_lit hB _)) HL.out HR.out (by simp) (by rw [locN_length]; omega)).mono ?_
      rintro e w2 ⟨v2, rfl, hown2, hb2⟩
      have HR2 : Hid (Rd w2 v2 (locN (co s) (k + 1))) := by
        rw [HM.out] at hown2
        exact hown2
      have HB2 : Hid (Below w.heap.size w w2) := Below.next (below_lit hB _) hb2
      clear hown2 hb2 HR HL c1 hB
      go_wp2
      go_roundw
      case rel => exact ⟨k + 1, by omega, by go_num, HR2.out, HB2.out⟩
      case measure => simp [intOf]; omega
    · have e : k = s.length := by omega
      have hge : ¬ (k : Int) < (s.length : Int) := by omega
      have HR : Hid (Rd wr (.slice av (k + 1) cv) (locL s)) := by
        show Rd _ _ _
        unfold locL
        rw [← e]; exact hR
      clear hs hR e
      go_wp2
      go_ret
      exact ⟨_, rfl, HR.out, hB⟩

set_option maxRecDepth 100000 in
set_option maxHeartbeats 1000000 in
theorem kloc_nil {v : Value} {s : List UInt8} {w : World} (hs : Rd w v s) : Calls Try.prog 52 #[.pointer none, v] w (MakesV w []) := by
  obtain ⟨a, c, rfl⟩ := hs.form
  clear hs
  go_enter Try.func52, Try.ntmps52
  go_wp2
  go_ret
  exact ⟨_, rfl, rd9_nil _, Below.refl _ _⟩

end Go.Proofs.Ytchfonofjbpmaaa.Gf

/-
  WORLDS IN WHICH SOME BLOCKS HAVE TURNED, AND OTHERS WERE LAID (a closure over several variables). No program's function is named here.
-/

namespace Go.Proofs.Ytchfonofjbpmaaa.Gf
set_option linter.unusedVariables false
set_option linter.unusedSimpArgs false
open Go.RowKit

structure TurnL (G : List Nat) (w w' : World) : Prop where
  os : w'.os = w.os
  tape : w'.tape = w.tape
  output : w'.output = w.output
  size : w.heap.size ≤ w'.heap.size
  block : ∀ k, k < w.heap.size → k ∉ G → w'.heap[k]? = w.heap[k]?
theorem TurnL.refl (G : List Nat) (w : World) : TurnL G w w := ⟨rfl, rfl, rfl, Nat.le_refl _, fun _ _ _ => rfl⟩
theorem TurnL.trans {G : List Nat} {a b c : World} (h : TurnL G a b) (k : TurnL G b c) : TurnL G a c :=
  ⟨k.os.trans h.os, k.tape.trans h.tape, k.output.trans h.output, Nat.le_trans h.size k.size, fun i hi hg => (k.block i (Nat.lt_of_lt_of_le hi h.size) hg).trans (h.block i hi hg)⟩
theorem Below.turnL {w w' : World} (h : Below w.heap.size w w') (G : List Nat) : TurnL G w w' := ⟨h.os, h.tape, h.output, h.size, fun k hk _ => h.block k hk⟩
theorem Only.turnL {g : Nat} {G : List Nat} {w w' : World} (h : Only g w w') (hg : g ∈ G) : TurnL G w w' :=
  ⟨h.os, h.tape, h.output, by rw [h.size]; exact Nat.le_refl _, fun k _ hk => h.block k (fun e => hk (by rw [e]; exact hg))⟩
theorem TurnL.put {G : List Nat} {a w : World} (h : TurnL G a w) {g : Nat} (hg : g ∈ G) (j : Nat) (u : Value) : TurnL G a (w.setCell ⟨g, j, none⟩ u) := h.trans (((Only.refl g w).setCell j u).turnL hg)
theorem TurnL.drew {G : List Nat} {a w : World} (h : TurnL G a w) : TurnL G a w.drew := ⟨h.os, h.tape, h.output, h.size, h.block⟩
theorem TurnL.drewN {G : List Nat} {a w : World} (h : TurnL G a w) (n : Nat) : TurnL G a (w.drewN n) := ⟨h.os, h.tape, h.output, h.size, h.block⟩
theorem TurnL.below {G : List Nat} {B : Nat} {w w' : World} (h : TurnL G w w') (hg : ∀ g, g ∈ G → B ≤ g) (hB : B ≤ w.heap.size) : Below B w w' :=
  ⟨h.os, h.tape, h.output, h.size, fun k hk => h.block k (by omega) (fun e => by have := hg k e; omega)⟩
theorem TurnL.cell {G : List Nat} {w w' : World} (h : TurnL G w w') {p : Addr} (hs : p.block < w.heap.size) (hp : p.block ∉ G) : w'.cell? p = w.cell? p := World.cell?_of_block (w := w) (h.block p.block hs hp)
theorem TurnL.frozen {G : List Nat} {w w' : World} (h : TurnL G w w') {p : Addr} (hs : p.block < w.heap.size) (hp : p.block ∉ G) : w'.frozen? p = w.frozen? p := World.frozen?_of_block (w := w) (h.block p.block hs hp)
theorem FieldAt.turnL {G : List Nat} {b : Nat} {w w' : World} (h : FieldAt w b) (hb : b ∉ G) (o : TurnL G w w') : FieldAt w' b :=
  ⟨fun i hi => (o.cell (p := ⟨b, i, none⟩) h.lt hb).trans (h.powers i hi), fun i hi => (o.cell (p := ⟨b, 255 + i, none⟩) h.lt hb).trans (h.places i hi), Nat.lt_of_lt_of_le h.lt o.size⟩
/-- a slice that lies in none of the blocks -/
def ApartL (G : List Nat) (v : Value) : Prop := ∀ x n c, v = .slice (some x) n c → n = 0 ∨ x.block ∉ G
theorem Rd.turnL {G : List Nat} {w w' : World} {v : Value} {p : List UInt8} (h : Rd w v p) (ha : ApartL G v) (ho : TurnL G w w') : Rd w' v p := by
  rcases h with h | ⟨b, off, cap, h1, h2, h3, h4, h5, h6⟩
  · exact Or.inl h
  · have hb : b ∉ G := by
      rcases ha _ _ _ h2 with e | e
      · exact absurd (List.length_eq_zero_iff.1 e) h1
      · exact e
    exact Or.inr ⟨b, off, cap, h1, h2, h3, h4, Nat.lt_of_lt_of_le h5 ho.size, fun i hi => (ho.cell (p := ⟨b, off + i, none⟩) h5 hb).trans (h6 i hi)⟩
/-- one that was there before the blocks were laid -/
theorem Rd.apartL {w : World} {v : Value} {p : List UInt8} {G : List Nat} (h : Rd w v p) (hg : ∀ g, g ∈ G → w.heap.size ≤ g) : ApartL G v := by
  intro x n c e
  rcases h with ⟨a, c', _, e2, _⟩ | ⟨b, off, cap, h1, h2, h3, h4, h5, h6⟩
  · subst e2; simp at e; exact Or.inl e.2.1.symm
  · subst h2; simp at e; obtain ⟨rfl, rfl, rfl⟩ := e; exact Or.inr (fun h => by have := hg b h; omega)
/-- one that was laid behind them -/
theorem ApartL.own {w : World} {base e n : Nat} {v : Value} {xs : List Value} {G : List Nat} (h : w.ownsRow base e 1 v n xs) (hg : ∀ g, g ∈ G → g < base) : ApartL G v := by
  intro x m c ev
  obtain ⟨_, ⟨hv, hn⟩ | ⟨g, cap, cur, hv, hgb, _⟩⟩ := h
  · rw [hv] at ev; simp at ev
  · rw [hv] at ev
    simp at ev
    obtain ⟨rfl, _, _⟩ := ev
    exact Or.inr (fun h => by have := hg g h; omega)
theorem ApartL.nil (G : List Nat) (c : Nat) (a : Option Addr) : ApartL G (.slice a 0 c) := fun x n c' e => by simp at e; exact Or.inl e.2.1.symm

end Go.Proofs.Ytchfonofjbpmaaa.Gf

