/-
  THE DOCUMENT's ANSWER FOR LAYER 6 (package aumbryref06) BY CONTRACT: 'Update'.
-/
import Derived.Test.YtehphjapahdalaaBkRefE
import Derived.Test.YtehphjapahdalaaBkUy
import Derived.Deep.RegionWith
namespace Go.Proofs.Ytehphjapahdalaa.Gf
set_option linter.unusedVariables false
set_option linter.unusedSimpArgs false
open Go.RowKit

/-- a slice of slices holds these values -/
def Vs (w : World) (v : Value) (us : List Value) : Prop := (v = .slice none 0 0 ∧ us = []) ∨ ∃ a m c, v = .slice (some a) m c ∧ us.length = m ∧ ∀ j u, us[j]? = some u → w.cell? (a.add j) = some u
theorem Rs.vs {w : World} {v : Value} {L : List (List UInt8)} (h : Rs w v L) : ∃ us, Vs w v us ∧ us.length = L.length ∧ (∀ i x, us[i]? = some x → Rd w x (ro L i)) ∧ ∀ u ∈ us, u.oneCell' = true := by
  obtain ⟨a, c, rfl, h1, h2, h3, h4⟩ := h
  have hex : ∃ f : Nat → Value, ∀ i, i < L.length → ∃ b off, a = some ⟨b, off, none⟩ ∧ w.cell? ⟨b, off + i, none⟩ = some (f i) ∧ Rd w (f i) (ro L i) := by
    have : ∀ i, ∃ x, i < L.length → ∃ b off, a = some ⟨b, off, none⟩ ∧ w.cell? ⟨b, off + i, none⟩ = some x ∧ Rd w x (ro L i) := fun i => by
      by_cases hi : i < L.length
      · obtain ⟨b, off, x, k1, _, k3, k4⟩ := h4 i hi
        exact ⟨x, fun _ => ⟨b, off, k1, k3, k4⟩⟩
      · exact ⟨.slice none 0 0, fun h => absurd h hi⟩
    exact ⟨fun i => (this i).choose, fun i => (this i).choose_spec⟩
  obtain ⟨f, hf⟩ := hex
  have hget : ∀ i x, ((List.range L.length).map f)[i]? = some x → i < L.length ∧ x = f i := fun i x hx => by
    by_cases hi : i < L.length
    · rw [List.getElem?_map, List.getElem?_range hi] at hx
      exact ⟨hi, by simpa using hx.symm⟩
    · rw [List.getElem?_eq_none (by simp; omega)] at hx; cases hx
  refine ⟨(List.range L.length).map f, ?_, by simp, fun i x hx => ?_, fun u hu => ?_⟩
  · cases a with
    | none =>
      have hc := h3 rfl
      have hl : L.length = 0 := by omega
      exact Or.inl ⟨by rw [hl, hc], by rw [hl]; rfl⟩
    | some a =>
      refine Or.inr ⟨a, L.length, c, rfl, by simp, fun j u hj => ?_⟩
      obtain ⟨hjl, rfl⟩ := hget j u hj
      obtain ⟨b, off, e, k, _⟩ := hf j hjl
      simp at e
      subst e
      rw [add_at]; exact k
  · obtain ⟨hi, rfl⟩ := hget i x hx
    obtain ⟨b, off, _, _, k⟩ := hf i hi
    exact k
  · obtain ⟨i, hi, rfl⟩ := List.mem_map.1 hu
    obtain ⟨b, off, _, _, k⟩ := hf i (List.mem_range.1 hi)
    obtain ⟨xa, xc, e⟩ := k.form
    rw [e]; rfl
theorem Vs.alloc {w : World} {v : Value} {us : List Value} (h : Vs w v us) (o : Obj) : Vs (w.alloc o) v us := by
  rcases h with h | ⟨a, m, c, h1, h2, h3⟩
  · exact Or.inl h
  · refine Or.inr ⟨a, m, c, h1, h2, fun j u hj => ?_⟩
    have := h3 j u hj
    exact (((Below.refl w.heap.size w).alloc (Nat.le_refl _) o).cell (World.block_lt_of_cell? w _ this)).trans this
theorem vs_two {w : World} (x y : Value) (e : Nat) : Vs (w.alloc (.cells #[x, y] e)) (.slice (some ⟨w.heap.size, 0, none⟩) 2 2) [x, y] := by
  refine Or.inr ⟨_, 2, 2, rfl, rfl, fun j u hj => ?_⟩
  rw [add_at, Nat.zero_add, World.cell?_alloc_new]
  rcases j with _ | _ | j
  · exact hj
  · exact hj
  · simp at hj
/-- 'append(s, x...)' of slices -/
theorem wpList_append_vs {P : Program} (w : World) {ops : Array Oper} {rest : List Oper} {o : Oper} {a : Act} {Q : Exit → Act → World → Prop} (hgd : o.guard = none) (s x : Operand) (t : TypeId)
    (ho : o.op = .call { callee := .builtin .append, args := #[s, x], argTypes := #[t, t] })
    (base : Nat) (e : TypeId) (i : TypeInfo) (ht : P.underlying t = some (.slice e)) (hi : P.info? e = some i) (hz : i.zero = some (.slice none 0 0)) (hsize : i.size = 1) (hby : i.bytes = 24)
    (v : Value) (n : Nat) (xs : List Value) (hs : a.eval s = v) (hown : w.ownsRow base e 1 v n xs) (vx : Value) (us : List Value) (hx : a.eval x = vx) (hV : Vs w vx us) (h1 : ∀ u ∈ us, u.oneCell' = true) (hl : n + us.length ≤ 100000) (hbase : base ≤ w.heap.size)
    (h : ∀ v' w', w'.ownsRow base e 1 v' (n + us.length) (xs ++ us) → w.grownBy w' v.ownBlock → wpList P ops Q rest (a.put o.dst v') w') : wpList P ops Q (o :: rest) a w := by
  refine wpList_plain hgd fun K hK => ?_
  have key : ∃ v' w', (Builtin.append_ #[t, t] o.type #[v, vx]).run P w = .ok v' w' ∧ w'.ownsRow base e 1 v' (n + us.length) (xs ++ us) ∧ w.grownBy w' v.ownBlock := by
    rcases hV with ⟨rfl, rfl⟩ | ⟨ad, m, c, rfl, hm, hc⟩
    · exact ⟨v, w, run_append_owned_none (P := P) (w := w) base t o.type e i 1 ht hi v n xs hown, by simpa using hown, World.grownBy.refl _ _⟩
    · obtain ⟨v', w', hrun, h2, h3, _, _⟩ := run_append_own_at (P := P) w base t o.type e i (.slice none 0 0) 1 24 ht hi hz hsize hby rfl (by decide) v n xs hown ad m c us (by omega) hc h1 (by unfold maxLen; omega) (by omega) hbase
      rw [← hm] at h2
      rw [← hm] at hrun
      exact ⟨v', w', by rw [← hm]; exact hrun, h2, h3⟩
  obtain ⟨v', w', hrun, h2, h3⟩ := key
  unfold Oper.wp execOp
  simp only [ho, resolve, invoke, builtin, Sem.run_bind, Sem.run_pure, Result.andThen_ok, List.map_toArray, List.map_cons, List.map_nil, hs, hx, hrun]
  exact hK _ _ (h v' w' h2 h3)
theorem rs_own {w : World} {base T : Nat} {v : Value} {vals : List Value} {L : List (List UInt8)} (hv : w.ownsRow base T 1 v L.length vals) (h : ∀ i x, vals[i]? = some x → Rd w x (ro L i)) : Rs w v L := by
  have hlen : vals.length = L.length := by have := hv.1; omega
  have hv' := hv
  obtain ⟨_, ⟨e, hn⟩ | ⟨g, cap, cur, e, hg, hh, hc, hm, hs, ht⟩⟩ := hv
  · subst e
    have : L = [] := List.length_eq_zero_iff.1 hn
    subst this
    exact rs_none
  · subst e
    refine ⟨some ⟨g, 0, none⟩, cap, rfl, hc, hm, nofun, fun i hi => ?_⟩
    have hx : vals[i]? = some vals[i] := List.getElem?_eq_getElem (by omega)
    refine ⟨g, 0, vals[i], rfl, (Array.getElem?_eq_some_iff.1 hh).1, ?_, h i _ hx⟩
    rw [Nat.zero_add, World.ownsRow.cellAt hv' i (by omega), hx]

theorem Os.drewU {w : World} {base T u : Nat} {v : Value} {L : List (List UInt8)} (h : Os w base T u v L) (n : Nat) : Os (w.drewN n) base T u v L := by
  obtain ⟨vals, hv, hr⟩ := h
  exact ⟨vals, hv, ⟨fun i x hx => hr.own i x hx, hr.diff, hr.out⟩⟩
theorem Os.drewU' {w : World} {base T u : Nat} {v : Value} {L : List (List UInt8)} (h : Os w base T u v L) : Os w.drew base T u v L := by
  obtain ⟨vals, hv, hr⟩ := h
  exact ⟨vals, World.ownsRow.drew hv, ⟨fun i x hx => World.ownsRow.drew (hr.own i x hx), hr.diff, hr.out⟩⟩
/-- places told anew: of the first i shards, and of the shard i the first c -/
def gP (A : List (List UInt8)) (f : Nat → Nat → UInt8) (i c : Nat) : List (List UInt8) := mkL A.length (fun r => upto (fun n => if r < i ∨ (r = i ∧ n < c) then f r n else co (ro A r) n) (ro A r).length)
theorem gP_length (A : List (List UInt8)) (f : Nat → Nat → UInt8) (i c : Nat) : (gP A f i c).length = A.length := mkL_length _ _
theorem gP_row {A : List (List UInt8)} {f : Nat → Nat → UInt8} {i c r : Nat} (h : r < A.length) : (ro (gP A f i c) r).length = (ro A r).length := by unfold gP; rw [ro_mkL h, upto_length]
theorem gP_zero (A : List (List UInt8)) (f : Nat → Nat → UInt8) : gP A f 0 0 = A := by
  refine ro_ext (gP_length _ _ _ _) fun r hr => ?_
  rw [gP_length] at hr
  unfold gP
  rw [ro_mkL hr]
  conv => rhs; rw [← upto_co (ro A r)]
  exact upto_congr fun n hn => if_neg (by omega)
theorem gP_next {A : List (List UInt8)} {f : Nat → Nat → UInt8} {i c : Nat} (hi : i < A.length) (h : (ro A i).length ≤ c) : gP A f i c = gP A f (i + 1) 0 := by
  refine mkL_congr fun r hr => upto_congr fun n hn => ?_
  by_cases e : r < i
  · rw [if_pos (Or.inl e), if_pos (Or.inl (by omega))]
  · by_cases e2 : r = i
    · subst e2
      rw [if_pos (Or.inr ⟨rfl, by omega⟩), if_pos (show r < r + 1 ∨ _ from Or.inl (by omega))]
    · rw [if_neg (by omega), if_neg (by omega)]
theorem gP_at {A : List (List UInt8)} {f : Nat → Nat → UInt8} {i c : Nat} (hi : i < A.length) (hc : c < (ro A i).length) : co (ro (gP A f i c) i) c = co (ro A i) c := by
  unfold gP
  rw [ro_mkL hi, co_upto_in hc]
  exact if_neg (by omega)
theorem gP_step {A : List (List UInt8)} {f : Nat → Nat → UInt8} {i c : Nat} (hi : i < A.length) (hc : c < (ro A i).length) : setL (gP A f i c) i c (f i c) = gP A f i (c + 1) := by
  refine ro_ext (by rw [setL_length, gP_length, gP_length]) fun r hr => ?_
  rw [setL_length, gP_length] at hr
  unfold setL
  rw [ro_set (by rw [gP_length]; exact hi)]
  by_cases e : r = i
  · subst e
    rw [if_pos rfl]
    refine co_ext (by rw [List.length_set, gP_row hr, gP_row hr]) fun n hn => ?_
    rw [List.length_set, gP_row hr] at hn
    rw [co_at (by rw [gP_row hr]; exact hc)]
    unfold gP
    rw [ro_mkL hr, ro_mkL hr, co_upto_in hn, co_upto_in hn]
    by_cases e2 : n = c
    · subst e2; rw [if_pos rfl, if_pos (Or.inr ⟨rfl, by omega⟩)]
    · rw [if_neg e2]
      by_cases e3 : n < c
      · rw [if_pos (Or.inr ⟨rfl, e3⟩), if_pos (Or.inr ⟨rfl, by omega⟩)]
      · rw [if_neg (by omega), if_neg (by omega)]
  · rw [if_neg e]
    unfold gP
    rw [ro_mkL hr, ro_mkL hr]
    refine upto_congr fun n hn => ?_
    by_cases e3 : r < i
    · rw [if_pos (Or.inl e3), if_pos (Or.inl e3)]
    · rw [if_neg (by omega), if_neg (by omega)]
theorem gP_upd {m : Nat} {F : Mx} {j : Nat} {p q : List UInt8} {A : List (List UInt8)} (h : A.length = m) : gP A (fun r n => co (ro A r) n ^^^ mu (F r j) (co p n ^^^ co q n)) m 0 = updL m F j p q A := by
  unfold gP updL
  rw [h]
  refine mkL_congr fun r hr => upto_congr fun n hn => ?_
  exact if_pos (Or.inl hr)

set_option maxRecDepth 100000 in
set_option maxHeartbeats 1000000 in
theorem rupd_bad {k m j : Int} {v1 v2 v : Value} {w : World} (h : ¬ OkC k m) : Calls Try.prog 18 #[.int .i64 k, .int .i64 m, .int .i64 j, v1, v2, v] w (MakesRs w 50 []) := by
  go_enter Try.func18, Try.ntmps18
  go_wp2_with fail
  refine (rpar_bad _ h).mono ?_
  rintro e w2 ⟨vs, rfl, hR, b2⟩
  obtain ⟨va, vc, rfl⟩ := hR.form
  clear h hR
  go_wp2
  exact bodyPost_ret (v := .tuple #[.slice none 0 0, .int .i64 50]) (by simp [results, Try.results18, go_sem]) rfl ⟨_, rfl, rs_none, below_lit b2 _⟩

set_option maxRecDepth 100000 in
set_option maxHeartbeats 4000000 in
theorem rupd_okc {k m : Nat} {j : Int} {vp vq v : Value} {p q : List UInt8} {A : List (List UInt8)} {w : World} (h1 : 1 ≤ k) (h2 : k + m ≤ 256) (hp : Rd w vp p) (hq : Rd w vq q) (h : Rs w v A) (hS : Small A) (hSp : p.length ≤ 300) {x y : Int} (hx : x = (k : Int)) (hy : y = (m : Int)) :
    Calls Try.prog 18 #[.int .i64 x, .int .i64 y, .int .i64 j, vp, vq, v] w (MakesRs w (updX k m j p q A) (updY k m j p q A)) := by
  subst hx hy
  obtain ⟨i1, hj', hy0, hy1, hy2⟩ := info_parts info_shard
  obtain ⟨a1, c1, rfl⟩ := hp.form
  obtain ⟨a2, c2, rfl⟩ := hq.form
  obtain ⟨da, dc, rfl⟩ := h.form
  have hS1 := hS.1
  have gw : IntKind.i64.wrap ((m : Int) + 2) = (m : Int) + 2 := by rw [IntKind.wrap_i64]; omega
  obtain ⟨F, hFF⟩ : ∃ F, Hid (F = parF k) := ⟨_, rfl⟩
  go_enter Try.func18, Try.ntmps18
  go_wp2_with fail
  refine (rpar_ok _ h1 h2 rfl rfl).mono ?_
  rintro e w2 ⟨vs, rfl, hR, b2⟩
  rw [← hFF.out] at hR
  obtain ⟨N, hN⟩ : ∃ N, Hid (N = (flat m k F).length) := ⟨_, rfl⟩
  obtain ⟨va, vc, rfl⟩ := hR.form
  rw [← hN.out] at hR ⊢
  have hNm : Hid (N = m * k) := by show _ = _; rw [hN.out, flat_length]
  have A2 : Below w2.heap.size w2 (w2.alloc (.cells #[.int .i64 (m : Int), .int .i64 (k : Int), .slice va N vc] 52)) := (Below.refl _ _).alloc (Nat.le_refl _) _
  have B2 : Below w.heap.size w (w2.alloc (.cells #[.int .i64 (m : Int), .int .i64 (k : Int), .slice va N vc] 52)) := below_lit b2 _
  have X2 := Box.new w2 (m : Int) (k : Int) (.slice va N vc) 52
  have hl2 : w2.heap.size < (w2.alloc (.cells #[.int .i64 (m : Int), .int .i64 (k : Int), .slice va N vc] 52)).heap.size := by simp
  have hR2 := hR.below A2
  have hp2 := hp.below B2
  have hq2 := hq.below B2
  have hD2 := h.below B2
  clear hR b2 A2 h hp hq hN
  have s1 : (w2.alloc (.cells #[.int .i64 (m : Int), .int .i64 (k : Int), .slice va N vc] 52)).heap.size = w2.heap.size + 1 := by simp
  have hs1 : Hid _ := s1
  clear s1
  obtain ⟨us, hV, hul, hur, huo⟩ := hD2.vs
  have hul' : Hid _ := hul
  have hur' : Hid _ := hur
  have hus : us.length ≤ 300 := by omega
  clear hul hur
  have hE : ((w2.alloc (.cells #[.int .i64 (m : Int), .int .i64 (k : Int), .slice va N vc] 52)).alloc (.cells #[] 35)).ownsRow (w2.alloc (.cells #[.int .i64 (m : Int), .int .i64 (k : Int), .slice va N vc] 52)).heap.size 35 1 (.slice (some ⟨w2.heap.size + 1, 0, none⟩) 0 0) 0 [] := by
    have := World.ownsRow_made (base := (w2.alloc (.cells #[.int .i64 (m : Int), .int .i64 (k : Int), .slice va N vc] 52)).heap.size) (e := 35) (size := 1) (w2.alloc (.cells #[.int .i64 (m : Int), .int .i64 (k : Int), .slice va N vc] 52)) #[] 0 (Nat.le_refl _) (Nat.zero_le _) rfl
    rwa [hs1.out] at this ⊢
  have hV1 := hV.alloc (.cells #[] 35)
  clear hV
  have hlen3 : Hid (0 + us.length = us.length) := Nat.zero_add _
  go_wp2_with (first
    | (at_builtin; (refine wpList_append_vs _ rfl (.tmp 30) (.tmp 31) 23 rfl (w2.alloc (.cells #[.int .i64 (m : Int), .int .i64 (k : Int), .slice va N vc] 52)).heap.size 35 i1 Try.underlying23 hj' hy0 hy1 hy2 (.slice (some ⟨w2.heap.size + 1, 0, none⟩) 0 0) 0 [] rfl hE (.slice da A.length dc) us rfl hV1 huo (by omega) (by simp) ?_); intro v3 w3 hv3 hg3; rw [List.nil_append, Nat.zero_add] at hv3; obtain ⟨a3, c3, e3⟩ := owns_form hv3; subst e3)
    | (at_builtin; (refine wpList_append_vs _ rfl (.tmp 32) (.tmp 35) 23 rfl (w2.alloc (.cells #[.int .i64 (m : Int), .int .i64 (k : Int), .slice va N vc] 52)).heap.size 35 i1 Try.underlying23 hj' hy0 hy1 hy2 (.slice a3 us.length c3) us.length us rfl (World.ownsRow.alloc hv3 _) (.slice (some ⟨w3.heap.size, 0, none⟩) 2 2) [.slice a1 p.length c1, .slice a2 q.length c2] rfl (vs_two _ _ _) (by intro u hu; simp at hu; rcases hu with rfl | rfl <;> rfl) (by simp; omega) (by have := hg3.size; simp at this ⊢; omega) ?_); intro v4 w4 hv4 hg4))
  have sg3 := hg3.size
  have sg4 := hg4.size
  simp at sg3 sg4
  have hgb : ((Value.slice (some ⟨w2.heap.size + 1, 0, none⟩) 0 0).ownBlock) = some (w2.heap.size + 1) := rfl
  rw [hgb, ← hs1.out] at hg3
  generalize w2.alloc (.cells #[.int .i64 (m : Int), .int .i64 (k : Int), .slice va N vc] 52) = w1 at *
  have hlt3 := World.ownsRow.lt hv3
  have b3 : Below w1.heap.size w1 w3 := ((Below.refl _ _).alloc (Nat.le_refl _) _).grown hg3 (by simp) (fun q hq => by cases hq; exact Nat.le_refl _)
  have b4 : Below w1.heap.size w1 w4 := (b3.alloc b3.size _).grown hg4 (by have := b3.size; simp; omega) (fun q hq => (hlt3 q hq).1)
  have Rall : Rs w4 v4 (A ++ [p, q]) := by
    have hle : us.length + [Value.slice a1 p.length c1, Value.slice a2 q.length c2].length = (A ++ [p, q]).length := by rw [List.length_append, ← hul'.out]; rfl
    rw [hle] at hv4
    refine rs_own hv4 fun i x hx => ?_
    by_cases hi : i < us.length
    · rw [List.getElem?_append_left hi] at hx
      rw [ro_append_left (by rw [← hul'.out]; exact hi)]
      exact (hur'.out i x hx).below b4
    · rw [List.getElem?_append_right (by omega)] at hx
      rw [ro_append_right (by rw [← hul'.out]; omega), ← hul'.out]
      rcases hd : i - us.length with _ | _ | d
      · rw [hd] at hx; simp at hx; subst hx; exact hp2.below b4
      · rw [hd] at hx; simp at hx; subst hx; exact hq2.below b4
      · rw [hd] at hx; simp at hx
  obtain ⟨a4, c4, e4⟩ := Rall.form
  subst e4
  replace X2 := X2.below hl2 b4
  replace hl2 := Nat.lt_of_lt_of_le hl2 b4.size
  replace hR2 := hR2.below b4
  replace hp2 := hp2.below b4
  replace hq2 := hq2.below b4
  replace hD2 := hD2.below b4
  replace B2 := Below.next B2 b4
  clear hE hV1 hg3 hv3 hg4 hv4 hlt3 b3 b4 hur' hul' huo hus hlen3 hs1 hgb sg3 sg4
  go_wp2_with fail
  refine (alike_any (x := (m : Int) + 2) Rall).mono ?_
  rintro e w5 ⟨rfl, nd, hd⟩
  have b5 : Below w4.heap.size w4 w5 := by rw [hd]; exact (Below.refl _ _).drewN nd
  replace X2 := X2.below hl2 b5
  replace hl2 := Nat.lt_of_lt_of_le hl2 b5.size
  replace hR2 := hR2.below b5
  replace hp2 := hp2.below b5
  replace hq2 := hq2.below b5
  replace hD2 := hD2.below b5
  replace B2 := Below.next B2 b5
  clear hd b5 Rall
  by_cases d : (A.length : Int) = m ∧ Even (A ++ [p, q])
  · have hAl : Hid (alikeB (A ++ [p, q]) ((m : Int) + 2) = true) := alikeB_true (by rw [List.length_append]; have := d.1; simp; omega) d.2
    rw [hAl.out]
    clear hAl
    by_cases hj0 : j < 0
    · have hU := updX_shard (p := p) (q := q) (A := A) (j := j) (okC_mk h1 h2) (fun e => by have := e.2.2.1; omega)
      have hU1 : Hid _ := hU.1
      have hU2 : Hid _ := hU.2
      clear hU d hD2 hp2 hq2 hR2 X2
      go_wp2
      exact bodyPost_ret (v := .tuple #[.slice none 0 0, .int .i64 60]) (by simp [results, Try.results18, go_sem]) rfl ⟨.slice none 0 0, by rw [hU1.out], by rw [hU2.out]; exact rs_none, B2⟩
    · by_cases hjk : j ≥ (k : Int)
      · have hU := updX_shard (p := p) (q := q) (A := A) (j := j) (okC_mk h1 h2) (fun e => by have := e.2.2.2; omega)
        have hU1 : Hid _ := hU.1
        have hU2 : Hid _ := hU.2
        clear hU d hD2 hp2 hq2 hR2 X2
        go_wp2
        exact bodyPost_ret (v := .tuple #[.slice none 0 0, .int .i64 60]) (by simp [results, Try.results18, go_sem]) rfl ⟨.slice none 0 0, by rw [hU1.out], by rw [hU2.out]; exact rs_none, B2⟩
      · obtain ⟨jn, rfl⟩ := Int.eq_ofNat_of_zero_le (show 0 ≤ j by omega)
        have hjn : jn < k := by omega
        have hU := updX_ok (p := p) (q := q) (A := A) (j := (jn : Int)) (okC_mk h1 h2) ⟨d.1, d.2, by omega, by omega⟩
        have hU1 : Hid _ := hU.1
        have hU2 : Hid (updY (k : Int) (m : Int) (jn : Int) p q A = updL m F jn p q A) := by show _ = _; rw [hU.2, hFF.out]; rfl
        have hAm : Hid (A.length = m) := (by have := d.1; omega : A.length = m)
        have h2n := d.2
        have hlen : Hid (q.length = p.length ∧ ∀ i, i < A.length → (ro A i).length = p.length) := by
          have k1 := h2n A.length (by simp)
          have k2 := h2n (A.length + 1) (by simp)
          rw [ro_append_right (Nat.le_refl _), Nat.sub_self] at k1
          rw [ro_append_right (by omega), show A.length + 1 - A.length = 1 by omega] at k2
          have e1 : ro [p, q] 0 = p := rfl
          have e2 : ro [p, q] 1 = q := rfl
          rw [e1] at k1
          rw [e2] at k2
          refine ⟨by rw [k2, k1], fun i hi => ?_⟩
          have k3 := h2n i (by simp; omega)
          rw [ro_append_left hi, ← k1] at k3
          exact k3
        clear hU d h2n
        go_wp2_with fail
        refine (rcop_any hD2 hS).mono ?_
        rintro e w6 ⟨vo, rfl, hO6, b6⟩
        obtain ⟨oa, oc, rfl⟩ := hO6.form
        obtain ⟨f, hf⟩ : ∃ f : Nat → Nat → UInt8, Hid (f = fun r n => co (ro A r) n ^^^ mu (F r jn) (co p n ^^^ co q n)) := ⟨_, rfl⟩
        obtain ⟨B, hBB⟩ : ∃ B, Hid (B = w5.heap.size) := ⟨_, rfl⟩
        rw [← hBB.out] at hO6 b6 hl2
        rw [hAm.out] at hO6 ⊢
        have HX : Hid (∀ wr, Below B w5 wr → Box wr w2.heap.size (m : Int) (k : Int) (.slice va N vc)) := fun wr hb => X2.below hl2 hb
        have HA : Hid (∀ wr, Below B w5 wr → Rd wr (.slice va N vc) (flat m k F)) := fun wr hb => hR2.below (by rw [← hBB.out]; exact hb)
        have HP : Hid (∀ wr, Below B w5 wr → Rd wr (.slice a1 p.length c1) p) := fun wr hb => hp2.below (by rw [← hBB.out]; exact hb)
        have HQ : Hid (∀ wr, Below B w5 wr → Rd wr (.slice a2 q.length c2) q) := fun wr hb => hq2.below (by rw [← hBB.out]; exact hb)
        have HO6 : Hid (Os w6 B 35 5 (.slice oa m oc) (gP A f 0 0)) := by
          show Os _ _ _ _ _ _
          rw [gP_zero]; exact hO6
        have HB6 : Hid (Below B w5 w6) := b6
        have hsB : Hid (w.heap.size ≤ B) := by rw [hBB.out]; exact B2.size
        have HB2 : Hid _ := B2
        clear X2 hR2 hp2 hq2 hD2 hO6 b6 B2 hS
        go_wp2
        go_loopw [19] (fun i wr => ∃ r : Nat, r ≤ m ∧ i = .int .i64 r ∧ Os wr B 35 5 (.slice oa m oc) (gP A f r 0) ∧ Below B w5 wr) (fun i _ => m - (intOf i).toNat)
        case atStart => exact ⟨0, by omega, rfl, HO6.out, HB6.out⟩
        case round =>
          obtain ⟨r, hr, rfl, hO, hBl⟩ := hrel
          clear HO6 HB6
          by_cases hlt : r < m
          · have hlt' : (r : Int) < (m : Int) := by omega
            have hrA : r < A.length := by rw [hAm.out]; exact hlt
            go_wp2
            go_loopw [20] (fun i wr => ∃ n : Nat, n ≤ p.length ∧ i = .int .i64 n ∧ Os wr B 35 5 (.slice oa m oc) (gP A f r n) ∧ Below B w5 wr) (fun i _ => p.length - (intOf i).toNat)
            case atStart => exact ⟨0, by omega, rfl, hO, hBl⟩
            case round =>
              clear hO hBl
              obtain ⟨n, hn, rfl, hO, hBl⟩ := hrel
              by_cases hn2 : n < p.length
              · have hn2' : (n : Int) < (p.length : Int) := by omega
                have hnr : n < (ro A r).length := by rw [hlen.out.2 r hrA]; exact hn2
                have hnr' : (n : Int) < ((ro A r).length : Int) := by omega
                have hnq : n < q.length := by rw [hlen.out.1]; exact hn2
                have hnq' : (n : Int) < (q.length : Int) := by omega
                obtain ⟨G, C, g, c, ev, cG, cg, fg, k1, k2, k3, k4, hset⟩ := hO.byte (i := r) (n := n) (by rw [gP_length]; exact hrA) (by rw [gP_row hrA]; exact hnr)
                simp at ev
                obtain ⟨eo, e1, e2⟩ := ev
                clear e1 e2
                subst eo
                rw [gP_row hrA] at cG
                rw [gP_at hrA hnr] at cg
                have x2 := (HX.out _ hBl).c2
                obtain ⟨pb, po, ep, hpb, dp5⟩ := (HP.out w5 (Below.refl _ _)).byte hn2
                obtain ⟨qb, qo, eq, hqb, dq5⟩ := (HQ.out w5 (Below.refl _ _)).byte hnq
                rw [← hBB.out] at hpb hqb
                have dp := (hBl.cell (p := ⟨pb, po + n, none⟩) hpb).trans dp5
                have dq := (hBl.cell (p := ⟨qb, qo + n, none⟩) hqb).trans dq5
                subst ep
                subst eq
                obtain ⟨T, hT⟩ : ∃ T, Hid (T = r * k + jn) := ⟨_, rfl⟩
                have hTN : T < N := by rw [hT.out, hNm.out]; exact place_lt hlt hjn
                have hNs : N ≤ 65536 := by rw [hNm.out]; exact mul_small (by omega) (by omega)
                obtain ⟨o', ho'⟩ : ∃ o', Hid (o' = r * k) := ⟨_, rfl⟩
                have hoT : o' + jn = T := by rw [ho'.out, hT.out]
                have v0 : (r : Int) * (k : Int) = (o' : Int) := by rw [ho'.out]; exact_mod_cast rfl
                have v3 : (o' : Int) + (jn : Int) = (T : Int) := by omega
                have v1 : IntKind.i64.wrap (o' : Int) = (o' : Int) := by rw [IntKind.wrap_i64]; omega
                have v2 : IntKind.i64.wrap (T : Int) = (T : Int) := by rw [IntKind.wrap_i64]; omega
                obtain ⟨ab, ao, eva, hab, ca5⟩ := (HA.out w5 (Below.refl _ _)).byte (i := T) (by rw [flat_length, ← hNm.out]; exact hTN)
                rw [← hBB.out] at hab
                have ca := (hBl.cell (p := ⟨ab, ao + T, none⟩) hab).trans ca5
                have eT : co (flat m k F) T = F r jn := by rw [hT.out]; exact en_flat F hlt hjn
                rw [eT] at ca
                subst eva
                have hTN' : (T : Int) < (N : Int) := by omega
                have E1 := xor_u8 (co p n) (co q n)
                have E2 := xor_u8 (co (ro A r) n) (mu (F r jn) (co p n ^^^ co q n))
                have HOn : Hid (Os (wr.setCell ⟨g, n, none⟩ (.int .u8 (((co (ro A r) n).toNat ^^^ (mu (F r jn) (co p n ^^^ co q n)).toNat : Nat) : Int))) B 35 5 (.slice (some ⟨G, 0, none⟩) m oc) (gP A f r (n + 1))) := by
                  show Os _ _ _ _ _ _
                  rw [← UInt8.toNat_xor, ← gP_step hrA hnr]
                  have : f r n = co (ro A r) n ^^^ mu (F r jn) (co p n ^^^ co q n) := by rw [hf.out]
                  rw [this]
                  exact hset _
                have HBn : Hid (Below B w5 (wr.setCell ⟨g, n, none⟩ (.int .u8 (((co (ro A r) n).toNat ^^^ (mu (F r jn) (co p n ^^^ co q n)).toNat : Nat) : Int)))) := hBl.setCell k1 _
                have n1 : g ≠ w2.heap.size := by omega
                have n2 : g ≠ ab := by omega
                have n3 : g ≠ pb := by omega
                have n4 : g ≠ qb := by omega
                clear hset hO hBl hoT eT ca5 dp5 dq5
                go_wp2
                refine wp_region_held_drew (S := (fun w' => w'.cell? ⟨G, r, none⟩ = some (.slice (some ⟨g, 0, none⟩) (ro A r).length c) ∧ w'.cell? ⟨w2.heap.size, 2, none⟩ = some (.slice (some ⟨ab, ao, none⟩) N vc) ∧ w'.cell? ⟨ab, ao + T, none⟩ = some (.int .u8 ((F r jn).toNat : Nat)) ∧ w'.cell? ⟨pb, po + n, none⟩ = some (.int .u8 ((co p n).toNat : Nat)) ∧ w'.cell? ⟨qb, qo + n, none⟩ = some (.int .u8 ((co q n).toNat : Nat)))) (by kernel_rfl) ?_ (fun hHeld => ?_)
                · exact ⟨cG, x2, ca, dp, dq⟩
                refine wpAnyH_take (i := 0) (v := ?_) rfl (by kernel_rfl) (by kernel_rfl) (by kernel_rfl) (fun _ _ _ h => h) (Or.inl ⟨by rfl, ?_⟩) (by assumption) ?_
                rotate_left
                · intro w hSw; (try dsimp only at hSw); go_simp; try with_reducible rfl
                try simp only [Act.put, List.setIfInBounds_toArray, List.set_cons_zero, List.set_cons_succ]
                refine wpAnyH_take (i := 1) (v := ?_) rfl (by kernel_rfl) (by kernel_rfl) (by kernel_rfl) (fun _ _ _ h => h) (Or.inl ⟨by rfl, ?_⟩) (by assumption) ?_
                rotate_left
                · intro w hSw; (try dsimp only at hSw); go_simp; try with_reducible rfl
                try simp only [Act.put, List.setIfInBounds_toArray, List.set_cons_zero, List.set_cons_succ]
                refine wpAnyH_take (i := 2) (v := ?_) rfl (by kernel_rfl) (by kernel_rfl) (by kernel_rfl) (fun _ _ _ h => h) (Or.inl ⟨by rfl, ?_⟩) (by assumption) ?_
                rotate_left
                · intro w hSw; (try dsimp only at hSw); go_simp; try with_reducible rfl
                try simp only [Act.put, List.setIfInBounds_toArray, List.set_cons_zero, List.set_cons_succ]
                refine wpAnyH_take (i := 3) (v := ?_) rfl (by kernel_rfl) (by kernel_rfl) (by kernel_rfl) (fun _ _ _ h => h) (Or.inl ⟨by rfl, ?_⟩) (by assumption) ?_
                rotate_left
                · intro w hSw; (try dsimp only at hSw); go_simp; try with_reducible rfl
                try simp only [Act.put, List.setIfInBounds_toArray, List.set_cons_zero, List.set_cons_succ]
                refine wpAnyH_take (i := 4) (v := ?_) rfl (by kernel_rfl) (by kernel_rfl) (by kernel_rfl) (fun _ _ _ h => h) (Or.inl ⟨by rfl, ?_⟩) (by assumption) ?_
                rotate_left
                · intro w hSw; (try dsimp only at hSw); go_simp; try with_reducible rfl
                try simp only [Act.put, List.setIfInBounds_toArray, List.set_cons_zero, List.set_cons_succ]
                refine wpAnyH_take (i := 5) (v := ?_) rfl (by kernel_rfl) (by kernel_rfl) (by kernel_rfl) (fun _ _ _ h => h) (Or.inl ⟨by rfl, ?_⟩) (by assumption) ?_
                rotate_left
                · intro w hSw; (try dsimp only at hSw); go_simp; try with_reducible rfl
                try simp only [Act.put, List.setIfInBounds_toArray, List.set_cons_zero, List.set_cons_succ]
                refine wpAnyH_take (i := 6) (v := ?_) rfl (by kernel_rfl) (by kernel_rfl) (by kernel_rfl) (fun _ _ _ h => h) (Or.inl ⟨by rfl, ?_⟩) (by assumption) ?_
                rotate_left
                · intro w hSw; (try dsimp only at hSw); go_simp; try with_reducible rfl
                try simp only [Act.put, List.setIfInBounds_toArray, List.set_cons_zero, List.set_cons_succ]
                refine wpAnyH_take (i := 7) (v := ?_) rfl (by kernel_rfl) (by kernel_rfl) (by kernel_rfl) (fun _ _ _ h => h) (Or.inl ⟨by rfl, ?_⟩) (by assumption) ?_
                rotate_left
                · intro w hSw; (try dsimp only at hSw); go_simp; try with_reducible rfl
                try simp only [Act.put, List.setIfInBounds_toArray, List.set_cons_zero, List.set_cons_succ]
                refine wpAnyH_take (i := 8) (v := ?_) rfl (by kernel_rfl) (by kernel_rfl) (by kernel_rfl) (fun _ _ _ h => h) (Or.inl ⟨by rfl, ?_⟩) (by assumption) ?_
                rotate_left
                · intro w hSw; (try dsimp only at hSw); go_simp; try with_reducible rfl
                try simp only [Act.put, List.setIfInBounds_toArray, List.set_cons_zero, List.set_cons_succ]
                refine wpAnyH_take (i := 9) (v := ?_) rfl (by kernel_rfl) (by kernel_rfl) (by kernel_rfl) (fun _ _ _ h => h) (Or.inl ⟨by rfl, ?_⟩) (by assumption) ?_
                rotate_left
                · intro w hSw; (try dsimp only at hSw); go_simp; try with_reducible rfl
                try simp only [Act.put, List.setIfInBounds_toArray, List.set_cons_zero, List.set_cons_succ]
                refine wpAnyH_take (i := 10) (v := ?_) rfl (by kernel_rfl) (by kernel_rfl) (by kernel_rfl) (fun _ _ _ h => h) (Or.inl ⟨by rfl, ?_⟩) (by assumption) ?_
                rotate_left
                · intro w hSw; (try dsimp only at hSw); go_simp; try with_reducible rfl
                try simp only [Act.put, List.setIfInBounds_toArray, List.set_cons_zero, List.set_cons_succ]
                refine wpAnyH_take (i := 12) (v := ?_) rfl (by kernel_rfl) (by kernel_rfl) (by kernel_rfl) (fun _ _ _ h => h) (Or.inl ⟨by rfl, ?_⟩) (by assumption) ?_
                rotate_left
                · intro w hSw; (try dsimp only at hSw); go_simp; try with_reducible rfl
                try simp only [Act.put, List.setIfInBounds_toArray, List.set_cons_zero, List.set_cons_succ]
                refine wpAnyH_take (i := 13) (v := ?_) rfl (by kernel_rfl) (by kernel_rfl) (by kernel_rfl) (fun _ _ _ h => h) (Or.inl ⟨by rfl, ?_⟩) (by assumption) ?_
                rotate_left
                · intro w hSw; (try dsimp only at hSw); go_simp; try with_reducible rfl
                try simp only [Act.put, List.setIfInBounds_toArray, List.set_cons_zero, List.set_cons_succ]
                refine wpAnyH_take (i := 14) (v := ?_) rfl (by kernel_rfl) (by kernel_rfl) (by kernel_rfl) (fun _ _ _ h => h) (Or.inl ⟨by rfl, ?_⟩) (by assumption) ?_
                rotate_left
                · intro w hSw; (try dsimp only at hSw); go_simp; try with_reducible rfl
                try simp only [Act.put, List.setIfInBounds_toArray, List.set_cons_zero, List.set_cons_succ]
                refine wpAnyH_take (i := 15) (v := ?_) rfl (by kernel_rfl) (by kernel_rfl) (by kernel_rfl) (fun _ _ _ h => h) (Or.inl ⟨by rfl, ?_⟩) (by assumption) ?_
                rotate_left
                · intro w hSw; (try dsimp only at hSw); go_simp; try with_reducible rfl
                try simp only [Act.put, List.setIfInBounds_toArray, List.set_cons_zero, List.set_cons_succ]
                refine wpAnyH_take (i := 16) (v := ?_) rfl (by kernel_rfl) (by kernel_rfl) (by kernel_rfl) (fun _ _ _ h => h) (Or.inl ⟨by rfl, ?_⟩) (by assumption) ?_
                rotate_left
                · intro w hSw; (try dsimp only at hSw); go_simp; try with_reducible rfl
                try simp only [Act.put, List.setIfInBounds_toArray, List.set_cons_zero, List.set_cons_succ]
                refine wpAnyH_take (i := 17) (v := ?_) rfl (by kernel_rfl) (by kernel_rfl) (by kernel_rfl) (fun _ _ _ h => h) (Or.inl ⟨by rfl, ?_⟩) (by assumption) ?_
                rotate_left
                · intro w hSw; (try dsimp only at hSw); go_simp; try with_reducible rfl
                try simp only [Act.put, List.setIfInBounds_toArray, List.set_cons_zero, List.set_cons_succ]
                refine wpAnyH_take (i := 18) (v := ?_) rfl (by kernel_rfl) (by kernel_rfl) (by kernel_rfl) (fun _ _ _ h => h) (Or.inl ⟨by rfl, ?_⟩) (by assumption) ?_
                rotate_left
                · intro w hSw; (try dsimp only at hSw); go_simp; try with_reducible rfl
                try simp only [Act.put, List.setIfInBounds_toArray, List.set_cons_zero, List.set_cons_succ]
                refine wpAnyH_take (i := 19) (v := ?_) rfl (by kernel_rfl) (by kernel_rfl) (by kernel_rfl) (fun _ _ _ h => h) (Or.inl ⟨by rfl, ?_⟩) (by assumption) ?_
                rotate_left
                · intro w hSw; (try dsimp only at hSw); go_simp; try with_reducible rfl
                try simp only [Act.put, List.setIfInBounds_toArray, List.set_cons_zero, List.set_cons_succ]
                refine wpAnyH_take (i := 20) (v := ?_) rfl (by kernel_rfl) (by kernel_rfl) (by kernel_rfl) (fun _ _ _ h => h) (Or.inl ⟨by rfl, ?_⟩) (by assumption) ?_
                rotate_left
                · intro w hSw; (try dsimp only at hSw); go_simp; try with_reducible rfl
                try simp only [Act.put, List.setIfInBounds_toArray, List.set_cons_zero, List.set_cons_succ]
                refine wpAnyH_take (i := 21) (v := ?_) rfl (by kernel_rfl) (by kernel_rfl) (by kernel_rfl) (fun _ _ _ h => h) (Or.inl ⟨by rfl, ?_⟩) (by assumption) ?_
                rotate_left
                · intro w hSw; (try dsimp only at hSw); go_simp; try with_reducible rfl
                try simp only [Act.put, List.setIfInBounds_toArray, List.set_cons_zero, List.set_cons_succ]
                refine wpAnyH_take (i := 22) (v := ?_) rfl (by kernel_rfl) (by kernel_rfl) (by kernel_rfl) (fun _ _ _ h => h) (Or.inl ⟨by rfl, ?_⟩) (by assumption) ?_
                rotate_left
                · intro w hSw; (try dsimp only at hSw); go_simp; try with_reducible rfl
                try simp only [Act.put, List.setIfInBounds_toArray, List.set_cons_zero, List.set_cons_succ]
                refine wpAnyH_take (i := 23) (v := ?_) rfl (by kernel_rfl) (by kernel_rfl) (by kernel_rfl) (fun _ _ _ h => h) (Or.inl ⟨by rfl, ?_⟩) (by assumption) ?_
                rotate_left
                · intro w hSw; (try dsimp only at hSw); go_simp; try with_reducible rfl
                try simp only [Act.put, List.setIfInBounds_toArray, List.set_cons_zero, List.set_cons_succ]
                refine wpAnyH_take (i := 24) (v := ?_) rfl (by kernel_rfl) (by kernel_rfl) (by kernel_rfl) (fun _ _ _ h => h) (Or.inl ⟨by rfl, ?_⟩) (by assumption) ?_
                rotate_left
                · intro w hSw; (try dsimp only at hSw); go_simp; try with_reducible rfl
                try simp only [Act.put, List.setIfInBounds_toArray, List.set_cons_zero, List.set_cons_succ]
                refine wpAnyH_take (i := 25) (v := ?_) rfl (by kernel_rfl) (by kernel_rfl) (by kernel_rfl) (fun _ _ _ h => h) (Or.inl ⟨by rfl, ?_⟩) (by assumption) ?_
                rotate_left
                · intro w hSw; (try dsimp only at hSw); go_simp; try with_reducible rfl
                try simp only [Act.put, List.setIfInBounds_toArray, List.set_cons_zero, List.set_cons_succ]
                refine wpAnyH_take (i := 26) (v := ?_) rfl (by kernel_rfl) (by kernel_rfl) (by kernel_rfl) (fun _ _ _ h => h) (Or.inl ⟨by rfl, ?_⟩) (by assumption) ?_
                rotate_left
                · intro w hSw; (try dsimp only at hSw); go_simp; try with_reducible rfl
                try simp only [Act.put, List.setIfInBounds_toArray, List.set_cons_zero, List.set_cons_succ]
                refine wpAnyH_take (i := 27) (v := ?_) rfl (by kernel_rfl) (by kernel_rfl) (by kernel_rfl) (fun _ _ _ h => h) (Or.inl ⟨by rfl, ?_⟩) (by assumption) ?_
                rotate_left
                · intro w hSw; (try dsimp only at hSw); go_simp; try with_reducible rfl
                try simp only [Act.put, List.setIfInBounds_toArray, List.set_cons_zero, List.set_cons_succ]
                refine wpAnyH_take (i := 28) (v := ?_) rfl (by kernel_rfl) (by kernel_rfl) (by kernel_rfl) (fun _ _ _ h => h) (Or.inl ⟨by rfl, ?_⟩) (by assumption) ?_
                rotate_left
                · intro w hSw; (try dsimp only at hSw); go_simp; try with_reducible rfl
                try simp only [Act.put, List.setIfInBounds_toArray, List.set_cons_zero, List.set_cons_succ]
                refine wpAnyH_take (i := 29) (v := ?_) rfl (by kernel_rfl) (by kernel_rfl) (by kernel_rfl) (fun _ _ _ h => h) (Or.inl ⟨by rfl, ?_⟩) (by assumption) ?_
                rotate_left
                · intro w hSw; (try dsimp only at hSw); go_simp; try with_reducible rfl
                try simp only [Act.put, List.setIfInBounds_toArray, List.set_cons_zero, List.set_cons_succ]
                refine wpAnyH_ready (rs := [11, 30]) (by kernel_rfl) (by simp) ?_
                refine AllReadyH.cons rfl (fun K hK => ?_) (AllReadyH.cons rfl (fun K hK => ?_) AllReadyH.nil)
                · go_simp
                  refine hK.out _ _ ?_ (fun hHeld => ?_)
                  · assumption
                  clear hK K
                  try simp only [Act.put, List.setIfInBounds_toArray, List.set_cons_zero, List.set_cons_succ]
                  refine wpAnyH_ready (rs := [30]) (by kernel_rfl) (by simp) ?_
                  refine AllReadyH.cons rfl (fun K hK => ?_) AllReadyH.nil
                  go_simp
                  refine (rmu6_at (F r jn) (co p n ^^^ co q n) rfl (by rw [UInt8.toNat_xor])).mono ?_
                  rintro e w' ⟨rfl, rfl⟩
                  try go_simp
                  refine hK.out _ _ ?_ (fun hHeld => ?_)
                  · assumption
                  clear hK K
                  try simp only [Act.put, List.setIfInBounds_toArray, List.set_cons_zero, List.set_cons_succ]
                  refine wpAnyH_take (i := 31) (v := ?_) rfl (by kernel_rfl) (by kernel_rfl) (by kernel_rfl) (fun _ _ _ h => h) (Or.inl ⟨by rfl, ?_⟩) (by assumption) ?_
                  rotate_left
                  · intro w hSw; (try dsimp only at hSw); go_simp; try with_reducible rfl
                  try simp only [Act.put, List.setIfInBounds_toArray, List.set_cons_zero, List.set_cons_succ]
                  refine wpAnyH_take (i := 32) (v := ?_) rfl (by kernel_rfl) (by kernel_rfl) (by kernel_rfl) (fun _ _ _ h => h) (Or.inl ⟨by rfl, ?_⟩) (by assumption) ?_
                  rotate_left
                  · intro w hSw; (try dsimp only at hSw); go_simp; try with_reducible rfl
                  try simp only [Act.put, List.setIfInBounds_toArray, List.set_cons_zero, List.set_cons_succ]
                  refine wpAnyH_ready (rs := [33]) (by kernel_rfl) (by simp) ?_
                  refine AllReadyH.cons rfl (fun K hK => ?_) AllReadyH.nil
                  go_simp
                  refine hK.out _ _ ?_ (fun hHeld => ?_)
                  · exact ⟨(World.cell?_setCell_far _ _ _ _ k3).trans hHeld.1, (World.cell?_setCell_far _ _ _ _ n1).trans hHeld.2.1, (World.cell?_setCell_far _ _ _ _ n2).trans hHeld.2.2.1, (World.cell?_setCell_far _ _ _ _ n3).trans hHeld.2.2.2.1, (World.cell?_setCell_far _ _ _ _ n4).trans hHeld.2.2.2.2⟩
                  clear hK K
                  try simp only [Act.put, List.setIfInBounds_toArray, List.set_cons_zero, List.set_cons_succ]
                  refine wpAnyH_done (by kernel_rfl) ?_ _
                  clear hHeld
                  go_wp2
                  go_roundw
                  case rel => exact ⟨n + 1, by omega, by go_num, by first | exact HOn.out.drewU _ | exact HOn.out.drewU' | exact HOn.out, by first | exact HBn.out.drewN _ | exact HBn.out.drew | exact HBn.out⟩
                  case measure => simp [intOf]; omega
                · go_simp
                  refine (rmu6_at (F r jn) (co p n ^^^ co q n) rfl (by rw [UInt8.toNat_xor])).mono ?_
                  rintro e w' ⟨rfl, rfl⟩
                  try go_simp
                  refine hK.out _ _ ?_ (fun hHeld => ?_)
                  · assumption
                  clear hK K
                  try simp only [Act.put, List.setIfInBounds_toArray, List.set_cons_zero, List.set_cons_succ]
                  refine wpAnyH_ready (rs := [11]) (by kernel_rfl) (by simp) ?_
                  refine AllReadyH.cons rfl (fun K hK => ?_) AllReadyH.nil
                  go_simp
                  refine hK.out _ _ ?_ (fun hHeld => ?_)
                  · assumption
                  clear hK K
                  try simp only [Act.put, List.setIfInBounds_toArray, List.set_cons_zero, List.set_cons_succ]
                  refine wpAnyH_take (i := 31) (v := ?_) rfl (by kernel_rfl) (by kernel_rfl) (by kernel_rfl) (fun _ _ _ h => h) (Or.inl ⟨by rfl, ?_⟩) (by assumption) ?_
                  rotate_left
                  · intro w hSw; (try dsimp only at hSw); go_simp; try with_reducible rfl
                  try simp only [Act.put, List.setIfInBounds_toArray, List.set_cons_zero, List.set_cons_succ]
                  refine wpAnyH_take (i := 32) (v := ?_) rfl (by kernel_rfl) (by kernel_rfl) (by kernel_rfl) (fun _ _ _ h => h) (Or.inl ⟨by rfl, ?_⟩) (by assumption) ?_
                  rotate_left
                  · intro w hSw; (try dsimp only at hSw); go_simp; try with_reducible rfl
                  try simp only [Act.put, List.setIfInBounds_toArray, List.set_cons_zero, List.set_cons_succ]
                  refine wpAnyH_ready (rs := [33]) (by kernel_rfl) (by simp) ?_
                  refine AllReadyH.cons rfl (fun K hK => ?_) AllReadyH.nil
                  go_simp
                  refine hK.out _ _ ?_ (fun hHeld => ?_)
                  · exact ⟨(World.cell?_setCell_far _ _ _ _ k3).trans hHeld.1, (World.cell?_setCell_far _ _ _ _ n1).trans hHeld.2.1, (World.cell?_setCell_far _ _ _ _ n2).trans hHeld.2.2.1, (World.cell?_setCell_far _ _ _ _ n3).trans hHeld.2.2.2.1, (World.cell?_setCell_far _ _ _ _ n4).trans hHeld.2.2.2.2⟩
                  clear hK K
                  try simp only [Act.put, List.setIfInBounds_toArray, List.set_cons_zero, List.set_cons_succ]
                  refine wpAnyH_done (by kernel_rfl) ?_ _
                  clear hHeld
                  go_wp2
                  go_roundw
                  case rel => exact ⟨n + 1, by omega, by go_num, by first | exact HOn.out.drewU _ | exact HOn.out.drewU' | exact HOn.out, by first | exact HBn.out.drewN _ | exact HBn.out.drew | exact HBn.out⟩
                  case measure => simp [intOf]; omega
              · have hn2' : ¬ (n : Int) < (p.length : Int) := by omega
                have HOn : Hid (Os wr B 35 5 (.slice oa m oc) (gP A f (r + 1) 0)) := by
                  show Os _ _ _ _ _ _
                  rw [← gP_next (c := n) hrA (by rw [hlen.out.2 r hrA]; omega)]; exact hO
                have HBn : Hid _ := hBl
                clear hO hBl
                go_wp2
                go_roundw
                case rel => exact ⟨r + 1, by omega, by go_num, HOn.out, HBn.out⟩
                case measure => simp [intOf]; omega
          · have hge : ¬ (r : Int) < (m : Int) := by omega
            have er : r = m := by omega
            have HR : Hid (Rs wr (.slice oa m oc) (updL m F jn p q A)) := by
              have eg : gP A f r 0 = updL m F jn p q A := by rw [er, hf.out]; exact gP_upd hAm.out
              show Rs _ _ _
              rw [← eg]; exact hO.rs
            have HBn : Hid (Below w.heap.size w wr) := Below.trans HB2.out (hBl.mono hsB.out)
            clear hO hBl er
            go_wp2
            exact bodyPost_ret (v := .tuple #[.slice oa m oc, .int .i64 0]) (by simp [results, Try.results18, go_sem]) rfl ⟨.slice oa m oc, by rw [hU1.out], by rw [hU2.out]; exact HR.out, HBn.out⟩
  · have hU := updX_shard (p := p) (q := q) (A := A) (j := j) (okC_mk h1 h2) (fun e => d ⟨e.1, e.2.1⟩)
    have hU1 : Hid _ := hU.1
    have hU2 : Hid _ := hU.2
    have hAl : Hid (alikeB (A ++ [p, q]) ((m : Int) + 2) = false) := decide_eq_false fun e => d ⟨by have := e.1; rw [List.length_append] at this; simp at this; omega, e.2⟩
    rw [hAl.out]
    clear hU hAl d hD2 hp2 hq2 hR2 X2
    go_wp2
    exact bodyPost_ret (v := .tuple #[.slice none 0 0, .int .i64 60]) (by simp [results, Try.results18, go_sem]) rfl ⟨.slice none 0 0, by rw [hU1.out], by rw [hU2.out]; exact rs_none, B2⟩

theorem rupd_any {k m j : Int} {vp vq v : Value} {p q : List UInt8} {A : List (List UInt8)} {w : World} (hp : Rd w vp p) (hq : Rd w vq q) (h : Rs w v A) (hS : Small A) (hSp : p.length ≤ 300) :
    Calls Try.prog 18 #[.int .i64 k, .int .i64 m, .int .i64 j, vp, vq, v] w (MakesRs w (updX k m j p q A) (updY k m j p q A)) := by
  by_cases c : OkC k m
  · obtain ⟨k, m, rfl, rfl, h1, h2⟩ := c.nat
    exact rupd_okc h1 h2 hp hq h hS hSp rfl rfl
  · rw [(updX_bad c).1, (updX_bad c).2]
    exact rupd_bad c

end Go.Proofs.Ytehphjapahdalaa.Gf
