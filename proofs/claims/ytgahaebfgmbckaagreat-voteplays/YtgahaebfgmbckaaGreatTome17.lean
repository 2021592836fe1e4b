/- TEXTS JOINED: DkRe. -/
import Derived.Deep.RegionLaw
import Derived.Test.YtgahaebfgmbckaaGreatTome8
import Derived.Test.YtgahaebfgmbckaaGreatTome15
import Derived.Test.YtgahaebfgmbckaaGreatTome16
namespace Go.Proofs.YtgahaebfgmbckaaGreat.Gf
set_option linter.unusedVariables false
set_option linter.unusedSimpArgs false
open Go.RowKit
theorem run_append_b {P : Program} (w : World) (t ty : TypeId) (base : Nat) (e : TypeId) (i : TypeInfo) (ht : P.underlying t = some (.slice e)) (hi : P.info? e = some i) (hz : i.zero = some (.int .u8 0)) (hsize : i.size = 1) (hby : i.bytes = 1)
    (v : Value) (n : Nat) (xs : List Value) (hown : w.ownsRow base e 1 v n xs) (va : Value) (p : List UInt8) (hr : Rd w va p) (hl : n + p.length ≤ 1000000) (hbase : base ≤ w.heap.size) :
    ∃ v' w', (Builtin.append_ #[t, t] ty #[v, va]).run P w = .ok v' w' ∧ w'.ownsRow base e 1 v' (n + p.length) (xs ++ p.map vb) ∧ w.grownBy w' v.ownBlock := by
  rcases hr with ⟨ao, cap, rfl, rfl, hc, hn⟩ | ⟨b, off, cap, hp0, rfl, h1, h2, h3, hpc⟩
  · rcases ao with _ | ad
    · have := hn rfl
      subst this
      exact ⟨v, w, run_append_owned_none (P := P) (w := w) base t ty e i 1 ht hi v n xs hown, by simpa using hown, World.grownBy.refl _ _⟩
    · obtain ⟨v', w', hr, h2, h3, _⟩ := run_append_own_at (P := P) w base t ty e i (.int .u8 0) 1 1 ht hi hz hsize hby rfl (by decide) v n xs hown ad 0 cap [] rfl (by intro j u hj; simp at hj) (by intro u hu; simp at hu) (by unfold maxLen; omega) (by omega) hbase
      exact ⟨v', w', hr, by simpa using h2, h3⟩
  · obtain ⟨v', w', hr, h2, h3, _⟩ := run_append_own_at (P := P) w base t ty e i (.int .u8 0) 1 1 ht hi hz hsize hby rfl (by decide) v n xs hown ⟨b, off, none⟩ p.length cap ((p.take p.length).map vb) (by simp) (news_of hpc) (vb_one _) (by unfold maxLen; omega) (by omega) hbase
    exact ⟨v', w', hr, by simpa using h2, h3⟩
theorem step_append_b {P : Program} {w : World} {ops : Array Oper} {o : Oper} {a : Act} {K : Act → World → Prop} {Q : Exit → Act → World → Prop} {E : Prop} (hgd : o.guard = none) (s x : Operand) (t : TypeId)
    (ho : o.op = .call { callee := .builtin .append, args := #[s, x], argTypes := #[t, t] })
    (base : Nat) (e : TypeId) (i : TypeInfo) (ht : P.underlying t = some (.slice e)) (hi : P.info? e = some i) (hz : i.zero = some (.int .u8 0)) (hsize : i.size = 1) (hby : i.bytes = 1)
    (v : Value) (n : Nat) (xs : List Value) (hs : a.eval s = v) (hown : w.ownsRow base e 1 v n xs) (va : Value) (p : List UInt8) (hx : a.eval x = va) (hr : Rd w va p) (hl : n + p.length ≤ 1000000) (hbase : base ≤ w.heap.size)
    (h : ∀ v' w', w'.ownsRow base e 1 v' (n + p.length) (xs ++ p.map vb) → w.grownBy w' v.ownBlock → K (a.put o.dst v') w') :
    if Region.wanted o (yielded ops a.tmps) = true then Oper.wp P o a w K Q else E := by
  have hw : Region.wanted o (yielded ops a.tmps) = true := by simp [Region.wanted, hgd]
  rw [if_pos hw]
  obtain ⟨v', w', hrun, h2, h3⟩ := run_append_b w t o.type base e i ht hi hz hsize hby v n xs hown va p hr hl hbase
  unfold Oper.wp execOp
  simp only [ho, resolve, invoke, builtin, Sem.run_bind, Sem.run_pure, Result.andThen_ok, List.map_toArray, List.map_cons, List.map_nil, hs, hx, hrun]
  exact h v' w' h2 h3
section
variable {w w' : World} {rb : Nat} {vl vw : Value} {Tl Tw : List TH} {H : Nat → Prop} {d : DkS}
/-- 'with', at a list that holds what f tells -/
def WithH (w : World) (H : Nat → Prop) (f : Int → Option (List UInt8)) (s : Nat) (e : Ending) (w' : World) : Prop := ∃ v T, e = .returned v ∧ ToldT w' H v T ∧ CapOk v ∧ bareT T = heldL f s ∧ Below w.heap.size w w'
theorem with_is {v : Value} {T : List TH} {f : Int → Option (List UInt8)} {s : Nat} (ht : ToldT w H v T) (hc : CapOk v) (he : bareT T = heldL f s) (hs : s ≤ 4096) (hl : ∀ k, H k → k < w.heap.size) {x : Int} (h0 : 0 ≤ x) (h1 : x < (s : Int)) {p : List UInt8} {vb : Value} (hp : Told w H vb p) :
    Calls Tryz.prog 104 #[v, .agg #[.int .i64 x, vb]] w (WithH w H (putB f x p) s) := by
  obtain ⟨k0, k1, hk, hlo, hhi, hb⟩ := with_place he h0 h1 p vb
  have hlen : T.length ≤ 4096 := by rw [← bareT_length, he]; exact Nat.le_trans (heldL_length _ _) hs
  refine (with_any ht.rd hc hp.rd (by omega) k0 k1 hk hlo hhi).mono ?_
  rintro e w' ⟨v', rfl, hrow, hbel⟩
  have hmem : ∀ t ∈ T.take k0 ++ (x, p, vb) :: T.drop k1, (t ∈ T ∨ t = (x, p, vb)) := by
    intro t ht2
    rcases List.mem_append.1 ht2 with h | h
    · exact Or.inl (List.mem_of_mem_take h)
    · rcases List.mem_cons.1 h with h | h
      · exact Or.inr h
      · exact Or.inl (List.mem_of_mem_drop h)
  have hlen2 : (T.take k0 ++ (x, p, vb) :: T.drop k1).length ≤ 100000 := by simp; omega
  refine ⟨v', _, rfl, ⟨rdT_row hrow (fun t ht2 => ?_) hlen2, ?_, fun t ht2 => ?_⟩, cap_row hrow, hb, hbel⟩
  · rcases hmem t ht2 with h | h
    · exact (ht.rd.each t h).below hbel
    · rw [h]; exact hp.rd.below hbel
  · intro y n c e
    right
    intro hg
    have h2 := row_at hrow (g := y.block) (by rw [e]; rfl)
    have h3 := hl _ hg
    omega
  · rcases hmem t ht2 with h | h
    · exact ht.each t h
    · rw [h]; exact hp.ap
set_option maxRecDepth 100000 in
set_option maxHeartbeats 1000000 in
theorem rwrite_any (h : RefIn w rb vl vw Tl Tw H d) {a : Int} {v : Value} {p : List UInt8} (hp : Rd w v p) :
    Calls Tryz.prog 80 #[.pointer (some ⟨rb, 0, none⟩), .int .i64 a, v] w (LeavesR w rb H (wrS d a p) (.int .i64 (wrX d a p))) := by
  have K := rfault_any h (a := a)
  have hpl := hp.len
  obtain ⟨ad, cp, rfl⟩ := hp.form
  obtain ⟨i0, hi, hz0, hz1, hz2⟩ := info_parts info_u8
  by_cases hf : faX d a = 0
  · by_cases hb : OkB p
    · have eX : wrX d a p = 0 := by unfold wrX; rw [if_pos hf, if_pos hb]
      obtain ⟨hb1, hb2⟩ := hb
      have q0 : ¬ (p.length : Int) < 1 := by omega
      have q3 : ¬ (p.length : Int) > 4108 := by omega
      have c2 := h.c2
      rw [eX]
      rw [hf] at K
      go_enter Tryz.func80, Tryz.ntmps80
      go_wp2_with fail
      refine K.mono ?_
      rintro _ wq ⟨rfl, hwq⟩
      rw [hwq]
      clear hwq wq
      go_wp2_with fail
      obtain ⟨fz1, fz2, fz3⟩ := faX_zero hf
      have bA : Below w.heap.size w (w.alloc (.cells #[] 5)).drew := (belA _ _).drew
      have oA : (w.alloc (.cells #[] 5)).drew.ownsRow w.heap.size 5 1 (.slice (some ⟨w.heap.size, 0, none⟩) 0 0) 0 [] := World.ownsRow.drew (own_new12 w 5)
      have pA := hp.below bA
      have hl0 : 0 + p.length ≤ 1000000 := by omega
      have c0 := h.c0
      have c0A := (h.below bA).c0
      have c2A := (h.below bA).c2
      have eS : { d with wait := putB d.wait a p } = wrS d a p := by unfold wrS; rw [if_pos ⟨hf, hb1, hb2⟩]
      clear K eX
      go_region_law (first
        | (refine step_append_b rfl (.tmp 28) (.tmp 29) 32 rfl w.heap.size 5 i0 Tryz.underlying32 hi hz0 hz1 hz2 (.slice (some ⟨w.heap.size, 0, none⟩) 0 0) 0 [] rfl oA _ p rfl pA hl0 bA.size ?_; intro v4 w4 h4 g4; have C4 : Below w.heap.size w w4 := bA.grown g4 bA.size (fun q hq => by cases hq; exact Nat.le_refl _); have I4 := h.below C4; have O4 : w4.ownsRow w.heap.size 5 1 v4 p.length (p.map vb) := (by rw [Nat.zero_add, List.nil_append] at h4; exact h4); have T4 : Told w4 H v4 p := ⟨Rd.owned O4, ApartG.own O4 h.lt⟩; have c04 := I4.c0; have c24 := I4.c2; obtain ⟨a4, k4, rfl⟩ := owns_slice O4)
        | (go_simp; go_at_call 104; (refine (with_is I4.tw h.kw h.ew h.s2 I4.lt fz2 fz3 T4).mono ?_); rintro _ w5 ⟨v5, T5, rfl, t5, k5, e5, b5⟩; have I5 := I4.below b5; have c05 := I5.c0; have c25 := I5.c2; have f25 := I5.f2; have I6 := I5.setW t5 k5 e5; have c06 := I6.c0; have B5 := C4.step12 b5 C4.size; obtain ⟨a5, m5, rfl⟩ := t5.rd.form; dsimp only))
      all_goals
        have FIN : Hid (RefAt (w5.setCell ⟨rb, 2, none⟩ (.slice a5 T5.length m5)) rb H (wrS d a p) ∧ TurnG (fun k => k = rb) w (w5.setCell ⟨rb, 2, none⟩ (.slice a5 T5.length m5))) := ⟨⟨_, _, _, _, by rw [← eS]; exact I6⟩, (Below.turnG B5 _).trans (turnR_set 2 _)⟩
        clear I6 c06 c05 c25 f25 I5 b5 t5 k5 e5 B5 c04 c24 T4 O4 I4 C4 g4 h4 h hp pA oA bA c0 c0A c2A c2 eS
        go_wp2
        go_ret
        exact ⟨rfl, FIN.out⟩
    · have eX : wrX d a p = 1 := by unfold wrX; rw [if_pos hf, if_neg hb]
      have eS : wrS d a p = d := by unfold wrS; rw [if_neg (fun h => hb h.2)]
      have FIN : Hid (RefAt w rb H (wrS d a p) ∧ TurnG (fun k => k = rb) w w) := by
        show _ ∧ _
        rw [eS]
        exact ⟨⟨_, _, _, _, h⟩, TurnG.refl _ _⟩
      rw [eX]
      rw [hf] at K
      clear eX eS h hp
      by_cases g1 : p.length < 1
      · have q0 : (p.length : Int) < 1 := by omega
        go_enter Tryz.func80, Tryz.ntmps80
        go_wp2_with fail
        refine K.mono ?_
        rintro _ wq ⟨rfl, hwq⟩
        rw [hwq]
        clear hwq wq K
        go_wp2
        go_ret
        exact ⟨rfl, FIN.out⟩
      · have q0 : ¬ (p.length : Int) < 1 := by omega
        have q3 : (p.length : Int) > 4108 := by have : ¬ (1 ≤ p.length ∧ p.length ≤ 4108) := hb; omega
        go_enter Tryz.func80, Tryz.ntmps80
        go_wp2_with fail
        refine K.mono ?_
        rintro _ wq ⟨rfl, hwq⟩
        rw [hwq]
        clear hwq wq K
        go_wp2
        go_ret
        exact ⟨rfl, FIN.out⟩
  · have eX : wrX d a p = faX d a := by unfold wrX; rw [if_neg hf]
    have eS : wrS d a p = d := by unfold wrS; rw [if_neg (fun h => hf h.1)]
    have FIN : Hid (RefAt w rb H (wrS d a p) ∧ TurnG (fun k => k = rb) w w) := by
      show _ ∧ _
      rw [eS]
      exact ⟨⟨_, _, _, _, h⟩, TurnG.refl _ _⟩
    rw [eX]
    obtain ⟨x, hx⟩ : ∃ x, x = faX d a := ⟨_, rfl⟩
    rw [← hx] at hf K ⊢
    clear eX eS h hp hx
    have q1 : (x == 0) = false := beq_eq_false_iff_ne.2 hf
    go_enter Tryz.func80, Tryz.ntmps80
    go_wp2_with fail
    refine K.mono ?_
    rintro _ wq ⟨rfl, hwq⟩
    rw [hwq]
    clear hwq wq K
    go_wp2
    go_ret
    exact ⟨rfl, FIN.out⟩
/-- what the document's Read answers -/
def TellsR (w : World) (x : Int) (p : List UInt8) (e : Ending) (w' : World) : Prop := ∃ v, e = .returned (.tuple #[v, .int .i64 x]) ∧ Rd w' v p ∧ Below w.heap.size w w'
/-- bytes in new memory -/
def TellsF (w : World) (x : Int) (p : List UInt8) (e : Ending) (w' : World) : Prop := ∃ v, e = .returned (.tuple #[v, .int .i64 x]) ∧ Rd w' v p ∧ FarV w v ∧ Below w.heap.size w w'
theorem TellsF.r {w w' : World} {x : Int} {p : List UInt8} {e : Ending} (h : TellsF w x p e w') : TellsR w x p e w' := by
  obtain ⟨v, h1, h2, _, h3⟩ := h
  exact ⟨v, h1, h2, h3⟩
theorem ref_look (h : RefIn w rb vl vw Tl Tw H d) (ok : d.Ok) (x : Int) : lookL (bareT Tw) x = d.wait x ∧ lookL (bareT Tl) x = d.last x := by
  rw [h.ew, h.el]
  exact ⟨lookL_held ok.iw x, lookL_held ok.il x⟩
set_option maxRecDepth 100000 in
set_option maxHeartbeats 1000000 in
theorem rread_far (h : RefIn w rb vl vw Tl Tw H d) (ok : d.Ok) {a : Int} : Calls Tryz.prog 82 #[.pointer (some ⟨rb, 0, none⟩), .int .i64 a] w (TellsF w (faX d a) (rdB d a)) := by
  have K := rfault_any h (a := a)
  obtain ⟨i0, hi, hz0, hz1, hz2⟩ := info_parts info_u8
  have c1 := h.c1
  have c2 := h.c2
  have KW := find_any h.tw.rd (x := a)
  have KL := find_any h.tl.rd (x := a)
  obtain ⟨LW, LL⟩ := ref_look h ok a
  by_cases hf : faX d a = 0
  · have eR : rdB d a = (atD d a).getD [] := by unfold rdB; rw [if_pos hf]
    rw [hf] at K ⊢
    rw [eR]
    obtain ⟨aw, cw, rfl⟩ := h.tw.rd.form
    obtain ⟨al, cl, rfl⟩ := h.tl.rd.form
    cases hw : d.wait a with
    | some p =>
      have eA : (atD d a).getD [] = p := by unfold atD; rw [hw]; rfl
      rw [eA]
      rw [hw] at LW
      go_enter Tryz.func82, Tryz.ntmps82
      go_wp2_with fail
      refine K.mono ?_
      rintro _ wq ⟨rfl, hwq⟩
      rw [hwq]
      clear hwq wq K
      go_wp2_with fail
      refine KW.mono ?_
      rintro _ wq ⟨hwq, ⟨rfl, e1⟩ | ⟨k, rfl, hk, e1⟩⟩
      · rw [LW] at e1; cases e1
      · rw [hwq]
        rw [LW] at e1
        cases e1
        clear hwq wq KW KL
        obtain ⟨b, off, rfl, x0, x1, r1⟩ := h.tw.rd.at hk
        have hkw := h.len_w
        have hk' : (k : Int) < (Tw.length : Int) := by omega
        have hk0 : (k : Int) ≥ 0 := by omega
        have hin : (Tw.getD k default).2.1.length ≤ 100000 := by
          have h5 := ok.iw a _ hw
          omega
        obtain ⟨t3, ht3⟩ : ∃ t, t = (Tw.getD k default).2.2 := ⟨_, rfl⟩
        obtain ⟨t2, ht2⟩ : ∃ t, t = (Tw.getD k default).2.1 := ⟨_, rfl⟩
        rw [← ht3] at x1 r1
        rw [← ht2] at r1 hin
        obtain ⟨ta, tc, rfl⟩ := r1.form
        have bA : Below w.heap.size w (w.alloc (.cells #[] 5)) := belA _ _
        have HT2 : Hid _ := ht2
        have oA := own_new12 w 5
        have I1 := h.below bA
        have y2 := I1.c2
        have hlt : b < w.heap.size := by
          have e := x1
          unfold World.cell? at e
          by_cases hb : b < w.heap.size
          · exact hb
          · rw [Array.getElem?_eq_none (by show w.heap.size ≤ b; omega)] at e; cases e
        have y9 := (bA.cell (p := ⟨b, off + k * 2 + 1, none⟩) hlt).trans x1
        have r9 := r1.below bA
        have hl9 : 0 + t2.length ≤ 1000000 := by omega
        clear h LW LL hw x0 x1 r1 I1 ht3 ht2 eR eA 
        go_wp2_with (first | (at_builtin; go_loud (refine wpList_append_rd _ rfl _ _ 32 rfl w.heap.size 5 i0 Tryz.underlying32 hi hz0 hz1 hz2 (.slice (some ⟨w.heap.size, 0, none⟩) 0 0) 0 [] rfl oA (.slice ta t2.length tc) t2 rfl r9 hl9 bA.size ?_); intro v4 w4 h4 g4))
        have FIN : Hid (Rd w4 v4 t2 ∧ FarV w v4 ∧ Below w.heap.size w w4) := by
          rw [Nat.zero_add, List.nil_append] at h4
          exact ⟨Rd.owned h4, FarV.own h4, bA.grown g4 bA.size (fun q hq => by cases hq; exact Nat.le_refl _)⟩
        clear h4 g4 oA r9
        go_wp2
        refine bodyPost_ret (v := .tuple #[v4, .int .i64 0]) (by simp [results, Tryz.results82, go_sem]) rfl ?_
        exact ⟨_, rfl, by rw [← HT2.out]; exact FIN.out⟩
    | none =>
      rw [hw] at LW
      cases hl : d.last a with
      | some p =>
        have eA : (atD d a).getD [] = p := by unfold atD; rw [hw, hl]; rfl
        rw [eA]
        rw [hl] at LL
        go_enter Tryz.func82, Tryz.ntmps82
        go_wp2_with fail
        refine K.mono ?_
        rintro _ wq ⟨rfl, hwq⟩
        rw [hwq]
        clear hwq wq K
        go_wp2_with fail
        refine KW.mono ?_
        rintro _ wq ⟨hwq, ⟨rfl, e1⟩ | ⟨k, rfl, hk, e1⟩⟩
        · rw [hwq]
          clear hwq wq KW e1
          go_wp2_with fail
          refine KL.mono ?_
          rintro _ wq ⟨hwq, ⟨rfl, e1⟩ | ⟨k, rfl, hk, e1⟩⟩
          · rw [LL] at e1; cases e1
          · rw [hwq]
            rw [LL] at e1
            cases e1
            clear hwq wq KL
            obtain ⟨b, off, rfl, x0, x1, r1⟩ := h.tl.rd.at hk
            have hkw := h.len_l
            have hk' : (k : Int) < (Tl.length : Int) := by omega
            have hk0 : (k : Int) ≥ 0 := by omega
            have hin : (Tl.getD k default).2.1.length ≤ 100000 := by
              have h5 := ok.il a _ hl
              omega
            obtain ⟨t3, ht3⟩ : ∃ t, t = (Tl.getD k default).2.2 := ⟨_, rfl⟩
            obtain ⟨t2, ht2⟩ : ∃ t, t = (Tl.getD k default).2.1 := ⟨_, rfl⟩
            rw [← ht3] at x1 r1
            rw [← ht2] at r1 hin
            obtain ⟨ta, tc, rfl⟩ := r1.form
            have bA : Below w.heap.size w (w.alloc (.cells #[] 5)) := belA _ _
            have HT2 : Hid _ := ht2
            have oA := own_new12 w 5
            have I1 := h.below bA
            have y1 := I1.c1
            have hlt : b < w.heap.size := by
              have e := x1
              unfold World.cell? at e
              by_cases hb : b < w.heap.size
              · exact hb
              · rw [Array.getElem?_eq_none (by show w.heap.size ≤ b; omega)] at e; cases e
            have y9 := (bA.cell (p := ⟨b, off + k * 2 + 1, none⟩) hlt).trans x1
            have r9 := r1.below bA
            have hl9 : 0 + t2.length ≤ 1000000 := by omega
            clear h LW LL hw x0 x1 r1 I1 ht3 ht2 eR eA hl
            go_wp2_with (first | (at_builtin; go_loud (refine wpList_append_rd _ rfl _ _ 32 rfl w.heap.size 5 i0 Tryz.underlying32 hi hz0 hz1 hz2 (.slice (some ⟨w.heap.size, 0, none⟩) 0 0) 0 [] rfl oA (.slice ta t2.length tc) t2 rfl r9 hl9 bA.size ?_); intro v4 w4 h4 g4))
            have FIN : Hid (Rd w4 v4 t2 ∧ FarV w v4 ∧ Below w.heap.size w w4) := by
              rw [Nat.zero_add, List.nil_append] at h4
              exact ⟨Rd.owned h4, FarV.own h4, bA.grown g4 bA.size (fun q hq => by cases hq; exact Nat.le_refl _)⟩
            clear h4 g4 oA r9
            go_wp2
            refine bodyPost_ret (v := .tuple #[v4, .int .i64 0]) (by simp [results, Tryz.results82, go_sem]) rfl ?_
            exact ⟨_, rfl, by rw [← HT2.out]; exact FIN.out⟩
        · rw [LW] at e1; cases e1
      | none =>
        have eA : (atD d a).getD [] = [] := by unfold atD; rw [hw, hl]; rfl
        rw [eA]
        rw [hl] at LL
        go_enter Tryz.func82, Tryz.ntmps82
        go_wp2_with fail
        refine K.mono ?_
        rintro _ wq ⟨rfl, hwq⟩
        rw [hwq]
        clear hwq wq K
        go_wp2_with fail
        refine KW.mono ?_
        rintro _ wq ⟨hwq, ⟨rfl, e1⟩ | ⟨k, rfl, hk, e1⟩⟩
        · rw [hwq]
          clear hwq wq KW e1
          go_wp2_with fail
          refine KL.mono ?_
          rintro _ wq ⟨hwq, ⟨rfl, e1⟩ | ⟨k, rfl, hk, e1⟩⟩
          · rw [hwq]
            clear hwq wq KL e1
            go_wp2
            refine bodyPost_ret (v := .tuple #[.slice none 0 0, .int .i64 0]) (by simp [results, Tryz.results82, go_sem]) rfl ?_
            exact ⟨_, rfl, Or.inl ⟨none, 0, rfl, rfl, Nat.zero_le _, fun _ => rfl⟩, FarV.nil _ _ _, Below.refl _ _⟩
          · rw [LL] at e1; cases e1
        · rw [LW] at e1; cases e1
  · have eR : rdB d a = [] := by unfold rdB; rw [if_neg hf]
    rw [eR]
    obtain ⟨x, hx⟩ : ∃ x, x = faX d a := ⟨_, rfl⟩
    rw [← hx] at hf K ⊢
    clear eR h hx KW KL
    have q1 : (x == 0) = false := beq_eq_false_iff_ne.2 hf
    go_enter Tryz.func82, Tryz.ntmps82
    go_wp2_with fail
    refine K.mono ?_
    rintro _ wq ⟨rfl, hwq⟩
    rw [hwq]
    clear hwq wq K
    go_wp2
    refine bodyPost_ret (v := .tuple #[.slice none 0 0, .int .i64 x]) (by simp [results, Tryz.results82, go_sem]) rfl ?_
    exact ⟨_, rfl, Or.inl ⟨none, 0, rfl, rfl, Nat.zero_le _, fun _ => rfl⟩, FarV.nil _ _ _, Below.refl _ _⟩
end
end Go.Proofs.YtgahaebfgmbckaaGreat.Gf
