/- TEXTS JOINED: VoCF. -/
import Derived.Test.YtgahaebfgmbckaaGreatTome30
namespace Go.Proofs.YtgahaebfgmbckaaGreat.Gf
set_option linter.unusedVariables false
set_option linter.unusedSimpArgs false
open Go.RowKit Go.Shelf
theorem wi_step {S : List SaS} {K : List Bool} {r : Nat} (h : wiF S K r = false) : wiF S K (r + 1) = (hb K r && (rpS (sF S r)).sp) := by
  unfold wiF
  rw [h, Bool.false_or]
  rfl
theorem wi_mono {S : List SaS} {K : List Bool} {r : Nat} (h : wiF S K r = true) : ∀ k, wiF S K (r + k) = true
  | 0 => h
  | k + 1 => by
    show wiF S K (r + k + 1) = true
    unfold wiF
    rw [wi_mono h k, Bool.true_or]
set_option maxRecDepth 100000 in
set_option maxHeartbeats 1000000 in
theorem iswit_any {w : World} {g n : Nat} {S : List SaS} (hR : RpRow w g n (fun i => rpS (sF S i))) (hn : n ≤ 1000) {u : Value} {K : List Bool} (hK : RdB w u K) : Calls Tryz.prog 35 #[.slice (some ⟨g, 0, none⟩) n n, u] w fun e w' => e = .returned (.bool (wiF S K n)) ∧ Below w.heap.size w w' := by
  obtain ⟨ua, uc, eu⟩ := hK.form
  subst eu
  go_enter Tryz.func35, Tryz.ntmps35
  go_wp2_with fail
  go_loopw [9] (fun i wr => ∃ k : Nat, k ≤ n ∧ i = .int .i64 (k : Int) ∧ Hid (Below w.heap.size w wr) ∧ Hid (wiF S K k = false)) (fun i _ => n - (intOf i).toNat)
  case atStart => exact ⟨0, Nat.zero_le _, rfl, Below.refl _ _, rfl⟩
  case round =>
    obtain ⟨k, hk, rfl, hB, hW⟩ := hrel
    by_cases hlt : k < n
    · have hlt' : (k : Int) < (n : Int) := by omega
      obtain ⟨z0, z1, z2, z3⟩ := (hR.below hB.out).cells hlt
      have ST := wi_step (S := S) (K := K) hW.out
      generalize rpS (sF S k) = R at z0 z1 z2 z3 ST
      obtain ⟨rs, rh, re, rd⟩ := R
      simp only at z0 z1 z2 z3 ST
      have BA : Hid (Below w.heap.size w (wr.alloc (.cells #[.bool rs, .bool rh, .int .i64 re, .string ⟨rd.toArray⟩] 121))) := hB.out.step16 (belR _ _) hB.out.size
      cases rs with
      | false =>
        have SN : Hid (wiF S K (k + 1) = false) := by show _ = _; rw [ST, Bool.and_false]
        clear ST hB hW
        go_wp2
        go_roundw
        case rel => exact ⟨k + 1, by omega, by go_num, BA, SN⟩
        case measure => simp [intOf]; omega
      | true =>
        by_cases hl : k < K.length
        · have hl' : (k : Int) < (K.length : Int) := by omega
          obtain ⟨b, off, rfl, hb1, hc⟩ := (hK.below BA.out).at hl
          obtain ⟨x, hx⟩ : ∃ x, Hid (x = hb K k) := ⟨_, rfl⟩
          rw [← hx.out] at hc ST
          cases x with
          | false =>
            have SN : Hid (wiF S K (k + 1) = false) := ST
            clear ST hB hW
            go_wp2
            go_roundw
            case rel => exact ⟨k + 1, by omega, by go_num, BA, SN⟩
            case measure => simp [intOf]; omega
          | true =>
            have SN : Hid (wiF S K n = true) := by
              have e : wiF S K (k + 1) = true := ST
              obtain ⟨j, rfl⟩ := Nat.exists_eq_add_of_lt hlt
              rw [show k + j + 1 = k + 1 + j by omega]
              exact wi_mono e j
            clear ST hB hW
            go_wp2
            go_ret
            exact ⟨by rw [SN.out]; rfl, BA.out⟩
        · have hl' : ¬ (k : Int) < (K.length : Int) := by omega
          have hld : decide ((k : Int) < (K.length : Int)) = false := decide_eq_false hl'
          have SN : Hid (wiF S K (k + 1) = false) := by
            show _ = _
            rw [ST]
            simp [hb, List.getD, Nat.le_of_not_lt hl]
          clear ST hB hW
          go_wp2
          go_roundw
          case rel => exact ⟨k + 1, by omega, by go_num, BA, SN⟩
          case measure => simp [intOf]; omega
    · obtain rfl : k = n := by omega
      have hge : ¬ (k : Int) < (k : Int) := by omega
      clear hR hK
      go_wp2
      go_ret
      exact ⟨by rw [hW.out]; rfl, hB.out⟩
/-- a row of numbers of disks, of the call's own -/
def OwnN17 (w : World) (base : Nat) (v : Value) (l : List Nat) : Prop := w.ownsRow base 3 1 v l.length ((zsN l).map fun z => Value.int .i64 z)
theorem OwnN17.rd {w : World} {base : Nat} {v : Value} {l : List Nat} (h : OwnN17 w base v l) (hl : l.length ≤ 1000) : RdI w v (zsN l) := by
  obtain ⟨_, ⟨e, hn⟩ | ⟨g, cap, cur, e, hg, hh, hc, hm, hs, ht⟩⟩ := id h
  · have : l = [] := List.length_eq_zero_iff.1 hn
    subst this
    exact Or.inl ⟨none, 0, rfl, e⟩
  · by_cases h0 : l = []
    · subst h0
      exact Or.inl ⟨_, _, rfl, e⟩
    · subst e
      have hlt := World.ownsRow.lt h g rfl
      refine Or.inr ⟨g, 0, cap, fun e => h0 (by unfold zsN at e; simpa using e), by rw [zsN_length], by rw [zsN_length]; unfold maxLen; omega, hlt.2, fun i hi => ?_⟩
      rw [zsN_length] at hi
      rw [Nat.zero_add, World.ownsRow.cellAt h i (by omega), List.getElem?_map, List.getElem?_eq_getElem (by rw [zsN_length]; exact hi)]
      simp [List.getD, zsN, hi]
theorem info_int17' : ∃ i, Tryz.prog.info? 3 = some i ∧ i.zero = some (.int .i64 0) ∧ i.size = 1 ∧ i.bytes = 8 := by
  have h := info_int17
  cases e : Tryz.prog.info? 3 with
  | none => rw [e] at h; cases h
  | some i =>
    rw [e] at h
    simp only [Option.map_some, Option.some.injEq, Prod.mk.injEq] at h
    exact ⟨i, rfl, h.1, h.2.1, h.2.2⟩
theorem wpList_append_n {w W : World} {base b : Nat} {v : Value} {l : List Nat} {z : Nat} {ops : Array Oper} {rest : List Oper} {o : Oper} {a : Act} {Q : Exit → Act → World → Prop} (hgd : o.guard = none) (s x : Operand)
    (ho : o.op = .call { callee := .builtin .append, args := #[s, x], argTypes := #[59, 59] }) (hs : a.eval s = v) (hx : a.eval x = .slice (some ⟨b, 0, none⟩) 1 1)
    (hO : OwnN17 w base v l) (hW : W = w.alloc (.cells #[.int .i64 (z : Int)] 3)) (hb : b = w.heap.size) (hl : l.length ≤ 1000) (hbase : base ≤ w.heap.size)
    (k : ∀ v' w', OwnN17 w' base v' (l ++ [z]) → Below base w w' → wpList Tryz.prog ops Q rest (a.put o.dst v') w') : wpList Tryz.prog ops Q (o :: rest) a W := by
  refine wpList_plain hgd fun K hK => ?_
  subst hW hb
  obtain ⟨i, hi, hz, hs1, hy⟩ := info_int17'
  obtain ⟨v', w', hrun, h2, h3, _, h5⟩ := run_append_own_at (P := Tryz.prog) (w.alloc (.cells #[.int .i64 (z : Int)] 3)) base 59 o.type 3 i (.int .i64 0) 1 8 Tryz.underlying59 hi hz hs1 hy rfl (by decide) v l.length ((zsN l).map fun z => Value.int .i64 z) (World.ownsRow.alloc hO _) ⟨w.heap.size, 0, none⟩ 1 1 [.int .i64 (z : Int)] rfl (by intro j y hj; rw [add_at, Nat.zero_add]; rcases j with _ | j <;> simp at hj; subst hj; simp) (by intro y hy; simp at hy; rw [hy]; rfl) (by unfold maxLen; omega) (by omega) (by simp; omega)
  unfold Oper.wp execOp
  simp only [ho, resolve, invoke, builtin, Sem.run_bind, Sem.run_pure, Result.andThen_ok, List.map_toArray, List.map_cons, List.map_nil, hs, hx, hrun]
  refine hK _ _ (k v' w' ?_ ?_)
  · unfold OwnN17
    have e : (zsN (l ++ [z])).map (fun z => Value.int .i64 z) = (zsN l).map (fun z => Value.int .i64 z) ++ [.int .i64 (z : Int)] := by simp [zsN]
    rw [e, List.length_append]
    exact h2
  · exact ((Below.refl base w).alloc hbase _).grown h3 (by simp; omega) (fun q hq => (World.ownsRow.lt hO q hq).1)
theorem row_late17 {w w' : World} {base e s n : Nat} {v : Value} {xs : List Value} (h : w.ownsRow base e s v n xs) (t : Below w.heap.size w w') : w'.ownsRow base e s v n xs := by
  obtain ⟨h0, h | ⟨g2, cap, cur, hv, hgg, hh, r⟩⟩ := h
  · exact ⟨h0, Or.inl h⟩
  · have hlt : g2 < w.heap.size := (Array.getElem?_eq_some_iff.1 hh).1
    exact ⟨h0, Or.inr ⟨g2, cap, cur, hv, hgg, by rw [t.block g2 hlt]; exact hh, r⟩⟩
theorem row_base17 {w : World} {base base' e s n : Nat} {v : Value} {xs : List Value} (h : w.ownsRow base e s v n xs) (hb : base' ≤ base) : w.ownsRow base' e s v n xs := by
  obtain ⟨h0, h | ⟨g, cap, cur, e, hg, r⟩⟩ := h
  · exact ⟨h0, Or.inl h⟩
  · exact ⟨h0, Or.inr ⟨g, cap, cur, e, Nat.le_trans hb hg, r⟩⟩
theorem toV_at {a : ArS} {ad e : Int} {d : List UInt8} {i : Nat} : toV a ad e d i = (!(a.D.getD i default).dead && !isV (sayV a ad i) e d) := rfl
theorem filt_step {tO : Nat → Bool} {r : Nat} : (List.range (r + 1)).filter tO = (List.range r).filter tO ++ (if tO r = true then [r] else []) := by
  rw [List.range_succ, List.filter_append]
  by_cases h : tO r = true
  · rw [if_pos h]; simp [h]
  · rw [if_neg h]; simp [h]
theorem filt_len {tO : Nat → Bool} (r : Nat) : ((List.range r).filter tO).length ≤ r := by
  have := List.length_filter_le tO (List.range r)
  rwa [List.length_range] at this
theorem ul_ff {p : Prop} (h : p := by
  go_wp2_with fail
  go_region_held3 (fun wx => wx.cell? ⟨g, k * 4, none⟩ = some (.bool false) ∧ wx.cell? ⟨g, k * 4 + 1, none⟩ = some (.bool rh) ∧ wx.cell? ⟨g, k * 4 + 2, none⟩ = some (.int .i64 re) ∧ wx.cell? ⟨g, k * 4 + 3, none⟩ = some (.string ⟨rd.toArray⟩) ∧ wx.cell? ⟨w.heap.size, 0, none⟩ = some (.int .i64 e) ∧ wx.cell? ⟨w.heap.size, 1, none⟩ = some (.string ⟨d.toArray⟩)) (first | exact s0 | exact sD | exact s1) (first
    | (go_at_call 72; go_loud (refine (KS _).mono ?_); rintro _ w1 ⟨rfl, B1⟩; have B2 := BD.step16 B1 BD.size; have s1 := SE.out _ B2))
  have O1 : OwnN17 w1 u.heap.size u7 ((List.range k).filter (toV a ad e d)) := row_late17 hO B2
  have BW : Below u.heap.size u w1 := hB.out.step16 B2 hB.out.size
  have lf : ((List.range k).filter (toV a ad e d)).length ≤ 1000 := by have := filt_len (tO := toV a ad e d) k; omega
  clear s0 sD s1 SE B1 B2 BD hO hB KS
  go_wp2_with (at_builtin; (refine wpList_append_n (w := w1) (z := k) rfl (.tmp 28) (.tmp 30) rfl rfl rfl O1 rfl rfl lf BW.size ?_); intro v4 w4 o4 G4; have B4 := BW.trans (G4.mono (Nat.le_refl _)); clear G4 O1 BW)
  rw [← FS.out] at o4
  have B5 : Hid (Below u.heap.size u w4) := B4
  go_roundw
  case rel => exact ⟨k + 1, by omega, by go_num, o4, B5⟩
  case measure => simp [intOf]; omega) : p := h
theorem ul_tf {p : Prop} (h : p := by
  go_wp2_with fail
  go_region_held3 (fun wx => wx.cell? ⟨g, k * 4, none⟩ = some (.bool true) ∧ wx.cell? ⟨g, k * 4 + 1, none⟩ = some (.bool false) ∧ wx.cell? ⟨g, k * 4 + 2, none⟩ = some (.int .i64 re) ∧ wx.cell? ⟨g, k * 4 + 3, none⟩ = some (.string ⟨rd.toArray⟩) ∧ wx.cell? ⟨w.heap.size, 0, none⟩ = some (.int .i64 e) ∧ wx.cell? ⟨w.heap.size, 1, none⟩ = some (.string ⟨d.toArray⟩)) (first | exact s0 | exact sD | exact s1) (first
    | (go_at_call 72; go_loud (refine (KS _).mono ?_); rintro _ w1 ⟨rfl, B1⟩; have B2 := BD.step16 B1 BD.size; have s1 := SE.out _ B2))
  have O1 : OwnN17 w1 u.heap.size u7 ((List.range k).filter (toV a ad e d)) := row_late17 hO B2
  have BW : Below u.heap.size u w1 := hB.out.step16 B2 hB.out.size
  have lf : ((List.range k).filter (toV a ad e d)).length ≤ 1000 := by have := filt_len (tO := toV a ad e d) k; omega
  clear s0 sD s1 SE B1 B2 BD hO hB KS
  go_wp2_with (at_builtin; (refine wpList_append_n (w := w1) (z := k) rfl (.tmp 28) (.tmp 30) rfl rfl rfl O1 rfl rfl lf BW.size ?_); intro v4 w4 o4 G4; have B4 := BW.trans (G4.mono (Nat.le_refl _)); clear G4 O1 BW)
  rw [← FS.out] at o4
  have B5 : Hid (Below u.heap.size u w4) := B4
  go_roundw
  case rel => exact ⟨k + 1, by omega, by go_num, o4, B5⟩
  case measure => simp [intOf]; omega) : p := h
theorem ul_tt {p : Prop} (h : p := by
  go_wp2_with fail
  go_region_held3 (fun wx => wx.cell? ⟨g, k * 4, none⟩ = some (.bool true) ∧ wx.cell? ⟨g, k * 4 + 1, none⟩ = some (.bool true) ∧ wx.cell? ⟨g, k * 4 + 2, none⟩ = some (.int .i64 re) ∧ wx.cell? ⟨g, k * 4 + 3, none⟩ = some (.string ⟨rd.toArray⟩) ∧ wx.cell? ⟨w.heap.size, 0, none⟩ = some (.int .i64 e) ∧ wx.cell? ⟨w.heap.size, 1, none⟩ = some (.string ⟨d.toArray⟩)) (first | exact s0 | exact sD | exact s1) (first
    | (go_at_call 72; go_loud (refine (KS _).mono ?_); rintro _ w1 ⟨rfl, B1⟩; have B2 := BD.step16 B1 BD.size; have s1 := SE.out _ B2))
  have O1 : OwnN17 w1 u.heap.size u7 ((List.range k).filter (toV a ad e d)) := row_late17 hO B2
  have BW : Below u.heap.size u w1 := hB.out.step16 B2 hB.out.size
  have lf : ((List.range k).filter (toV a ad e d)).length ≤ 1000 := by have := filt_len (tO := toV a ad e d) k; omega
  clear s0 sD s1 SE B1 B2 BD hO hB KS
  go_wp2_with (at_builtin; (refine wpList_append_n (w := w1) (z := k) rfl (.tmp 28) (.tmp 30) rfl rfl rfl O1 rfl rfl lf BW.size ?_); intro v4 w4 o4 G4; have B4 := BW.trans (G4.mono (Nat.le_refl _)); clear G4 O1 BW)
  rw [← FS.out] at o4
  have B5 : Hid (Below u.heap.size u w4) := B4
  go_roundw
  case rel => exact ⟨k + 1, by omega, by go_num, o4, B5⟩
  case measure => simp [intOf]; omega) : p := h
theorem ul_tu {p : Prop} (h : p := by
  go_wp2_with fail
  go_region_held3 (fun wx => wx.cell? ⟨g, k * 4, none⟩ = some (.bool true) ∧ wx.cell? ⟨g, k * 4 + 1, none⟩ = some (.bool true) ∧ wx.cell? ⟨g, k * 4 + 2, none⟩ = some (.int .i64 e) ∧ wx.cell? ⟨g, k * 4 + 3, none⟩ = some (.string ⟨rd.toArray⟩) ∧ wx.cell? ⟨w.heap.size, 0, none⟩ = some (.int .i64 e) ∧ wx.cell? ⟨w.heap.size, 1, none⟩ = some (.string ⟨d.toArray⟩)) (first | exact s0 | exact sD | exact s1) (first
    | (go_at_call 72; go_loud (refine (KS _).mono ?_); rintro _ w1 ⟨rfl, B1⟩; have B2 := BD.step16 B1 BD.size; have s1 := SE.out _ B2))
  have O1 : OwnN17 w1 u.heap.size u7 ((List.range k).filter (toV a ad e d)) := row_late17 hO B2
  have BW : Below u.heap.size u w1 := hB.out.step16 B2 hB.out.size
  have lf : ((List.range k).filter (toV a ad e d)).length ≤ 1000 := by have := filt_len (tO := toV a ad e d) k; omega
  clear s0 sD s1 SE B1 B2 BD hO hB KS
  go_wp2_with (at_builtin; (refine wpList_append_n (w := w1) (z := k) rfl (.tmp 28) (.tmp 30) rfl rfl rfl O1 rfl rfl lf BW.size ?_); intro v4 w4 o4 G4; have B4 := BW.trans (G4.mono (Nat.le_refl _)); clear G4 O1 BW)
  rw [← FS.out] at o4
  have B5 : Hid (Below u.heap.size u w4) := B4
  go_roundw
  case rel => exact ⟨k + 1, by omega, by go_num, o4, B5⟩
  case measure => simp [intOf]; omega) : p := h
theorem ul_eq {p : Prop} (h : p := by
  go_wp2_with fail
  go_region_held3 (fun wx => wx.cell? ⟨g, k * 4, none⟩ = some (.bool true) ∧ wx.cell? ⟨g, k * 4 + 1, none⟩ = some (.bool true) ∧ wx.cell? ⟨g, k * 4 + 2, none⟩ = some (.int .i64 e) ∧ wx.cell? ⟨g, k * 4 + 3, none⟩ = some (.string ⟨d.toArray⟩) ∧ wx.cell? ⟨w.heap.size, 0, none⟩ = some (.int .i64 e) ∧ wx.cell? ⟨w.heap.size, 1, none⟩ = some (.string ⟨d.toArray⟩)) (first | exact s0 | exact sD | exact s1) (first
    | (go_at_call 72; go_loud (refine (KS _).mono ?_); rintro _ w1 ⟨rfl, B1⟩; have B2 := BD.step16 B1 BD.size; have s1 := SE.out _ B2))
  have OD : Hid (OwnN17 w1 u.heap.size u7 ((List.range (k + 1)).filter (toV a ad e d))) := by rw [FS.out]; exact row_late17 hO B2
  have BW : Hid (Below u.heap.size u w1) := hB.out.step16 B2 hB.out.size
  clear s0 sD s1 SE B1 B2 BD hO hB KS
  go_wp2
  go_roundw
  case rel => exact ⟨k + 1, by omega, by go_num, OD.out, BW⟩
  case measure => simp [intOf]; omega) : p := h
set_option maxRecDepth 100000 in
set_option maxHeartbeats 4000000 in
theorem unlike_any {w : World} {ab : Nat} {GA : Nat → Prop} {a : ArS} (h : ArAt w ab GA a) {ad : Int} {g n : Nat} (hn : n = a.D.length) (hR : RpRow w g n (fun i => rpS (sayV a ad i))) {e : Int} {d : List UInt8} :
    Calls Tryz.prog 38 #[.pointer (some ⟨ab, 0, none⟩), .slice (some ⟨g, 0, none⟩) n n, .agg #[.int .i64 e, .string ⟨d.toArray⟩]] w fun x w' => ∃ v, x = .returned v ∧ OwnN17 w' w.heap.size v ((List.range n).filter (toV a ad e d)) ∧ Below w.heap.size w w' := by
  obtain ⟨W, hW⟩ : ∃ W, W = w.alloc (.cells #[.int .i64 e, .string ⟨d.toArray⟩] 87) := ⟨_, rfl⟩
  have B : Below w.heap.size w W := by rw [hW]; exact belR _ _
  have m0 : W.cell? ⟨w.heap.size, 0, none⟩ = some (.int .i64 e) := by rw [hW, World.cell?_alloc_new]; rfl
  have m1 : W.cell? ⟨w.heap.size, 1, none⟩ = some (.string ⟨d.toArray⟩) := by rw [hW, World.cell?_alloc_new]; rfl
  have zW : W.heap.size = w.heap.size + 1 := by rw [hW]; simp
  have d2 : n ≤ 32 := by rw [hn]; exact h.ok.d2
  have KL := alive_any (h.below B)
  rw [← hn] at KL
  clear h hn
  go_enter Tryz.func38, Tryz.ntmps38
  go_wp2_with fail
  rw [← hW]
  refine KL.mono ?_
  rintro _ u ⟨gl, rfl, rl, sl, bu⟩
  clear KL hW
  replace m0 := (bu.cell (p := ⟨w.heap.size, 0, none⟩) (by show w.heap.size < _; omega)).trans m0
  replace m1 := (bu.cell (p := ⟨w.heap.size, 1, none⟩) (by show w.heap.size < _; omega)).trans m1
  have lu : w.heap.size < u.heap.size := by have := bu.size; omega
  have Bu : Below w.heap.size w u := B.step16 bu B.size
  have Ru := hR.below Bu
  clear hR B bu sl zW
  go_wp2_with fail
  go_loopw [7, 13] (fun v i wr => ∃ k : Nat, k ≤ n ∧ i = .int .i64 (k : Int) ∧ OwnN17 wr u.heap.size v ((List.range k).filter (toV a ad e d)) ∧ Hid (Below u.heap.size u wr)) (fun _ i _ => n - (intOf i).toNat)
  case atStart => exact ⟨0, Nat.zero_le _, rfl, World.ownsRow_nil _ _ _ _, Below.refl _ _⟩
  case round =>
    obtain ⟨k, hk, rfl, hO, hB⟩ := hrel
    by_cases hlt : k < n
    · have hlt' : (k : Int) < (n : Int) := by omega
      have r1 := (rl.of_block (hB.out.block gl rl.lt)).cell hlt
      have R1 := Ru.below hB.out
      obtain ⟨z0, z1, z2, z3⟩ := R1.cells hlt
      have y0 := (hB.out.cell (p := ⟨w.heap.size, 0, none⟩) lu).trans m0
      have y1 := (hB.out.cell (p := ⟨w.heap.size, 1, none⟩) lu).trans m1
      have TV := toV_at (a := a) (ad := ad) (e := e) (d := d) (i := k)
      have IS := rp_is (s := sayV a ad k) (e := e) (d := d)
      obtain ⟨L, hL⟩ : ∃ L, Hid (L = !(a.D.getD k default).dead) := ⟨_, rfl⟩
      rw [← hL.out] at TV r1
      generalize rpS (sayV a ad k) = R at z0 z1 z2 z3 IS
      obtain ⟨rs, rh, re, rd⟩ := R
      simp only at z0 z1 z2 z3 IS
      cases L with
      | false =>
        have FS : Hid ((List.range (k + 1)).filter (toV a ad e d) = (List.range k).filter (toV a ad e d)) := by
          show _ = _
          rw [filt_step, TV, Bool.false_and, if_neg (by decide), List.append_nil]
        clear TV IS hL R1
        go_wp2_with fail
        go_quiet (fail)
        have OD : Hid (OwnN17 (wr.drewN nq) u.heap.size u7 ((List.range (k + 1)).filter (toV a ad e d))) := by rw [FS.out]; exact hO
        have BD : Hid (Below u.heap.size u (wr.drewN nq)) := hB.out.drewN nq
        clear FS hO hB z0 z1 z2 z3 y0 y1 r1
        go_wp2
        go_roundw
        case rel => exact ⟨k + 1, by omega, by go_num, OD.out, BD⟩
        case measure => simp [intOf]; omega
      | true =>
        have KS := fun W => @saying_any e d W
        have s0 : wr.cell? ⟨g, k * 4, none⟩ = some (.bool rs) ∧ wr.cell? ⟨g, k * 4 + 1, none⟩ = some (.bool rh) ∧ wr.cell? ⟨g, k * 4 + 2, none⟩ = some (.int .i64 re) ∧ wr.cell? ⟨g, k * 4 + 3, none⟩ = some (.string ⟨rd.toArray⟩) ∧ wr.cell? ⟨w.heap.size, 0, none⟩ = some (.int .i64 e) ∧ wr.cell? ⟨w.heap.size, 1, none⟩ = some (.string ⟨d.toArray⟩) := ⟨z0, z1, z2, z3, y0, y1⟩
        have lw : w.heap.size < wr.heap.size := Nat.lt_of_lt_of_le lu hB.out.size
        have SE : Hid (∀ W, Below wr.heap.size wr W → (W.cell? ⟨g, k * 4, none⟩ = some (.bool rs) ∧ W.cell? ⟨g, k * 4 + 1, none⟩ = some (.bool rh) ∧ W.cell? ⟨g, k * 4 + 2, none⟩ = some (.int .i64 re) ∧ W.cell? ⟨g, k * 4 + 3, none⟩ = some (.string ⟨rd.toArray⟩) ∧ W.cell? ⟨w.heap.size, 0, none⟩ = some (.int .i64 e) ∧ W.cell? ⟨w.heap.size, 1, none⟩ = some (.string ⟨d.toArray⟩))) := fun W b =>
          ⟨(b.cell (p := ⟨g, k * 4, none⟩) R1.lt).trans z0, (b.cell (p := ⟨g, k * 4 + 1, none⟩) R1.lt).trans z1, (b.cell (p := ⟨g, k * 4 + 2, none⟩) R1.lt).trans z2, (b.cell (p := ⟨g, k * 4 + 3, none⟩) R1.lt).trans z3, (b.cell (p := ⟨w.heap.size, 0, none⟩) lw).trans y0, (b.cell (p := ⟨w.heap.size, 1, none⟩) lw).trans y1⟩
        have BD : Below wr.heap.size wr wr.drew := (Below.refl _ _).drew
        have sD := SE.out _ BD
        clear R1 z0 z1 z2 z3 y0 y1
        have FY : Hid (isV (sayV a ad k) e d = false → (List.range (k + 1)).filter (toV a ad e d) = (List.range k).filter (toV a ad e d) ++ [k]) := fun q => by
          rw [filt_step, TV, q]
          rfl
        have FN : Hid (isV (sayV a ad k) e d = true → (List.range (k + 1)).filter (toV a ad e d) = (List.range k).filter (toV a ad e d)) := fun q => by
          rw [filt_step, TV, q]
          exact List.append_nil _
        have NO : Hid (¬ (rs = true ∧ rh = true ∧ re = e ∧ rd = d) → isV (sayV a ad k) e d = false) := fun q => by
          cases x : isV (sayV a ad k) e d with
          | false => rfl
          | true => exact absurd (IS.2 x) q
        have YE : Hid ((rs = true ∧ rh = true ∧ re = e ∧ rd = d) → isV (sayV a ad k) e d = true) := fun q => IS.1 q
        clear TV IS hL
        cases rs with
        | false =>
          have FS : Hid ((List.range (k + 1)).filter (toV a ad e d) = (List.range k).filter (toV a ad e d) ++ [k]) := FY.out (NO.out (by simp))
          clear FY FN NO YE
          exact ul_ff
        | true =>
          cases rh with
          | false =>
            have FS : Hid ((List.range (k + 1)).filter (toV a ad e d) = (List.range k).filter (toV a ad e d) ++ [k]) := FY.out (NO.out (by simp))
            clear FY FN NO YE
            exact ul_tf
          | true =>
            by_cases q1 : re = e
            · have q1s := q1.symm
              subst q1s
              by_cases q2 : rd = d
              · have q2s := q2.symm
                subst q2s
                have FS : Hid ((List.range (k + 1)).filter (toV a ad e d) = (List.range k).filter (toV a ad e d)) := FN.out (YE.out ⟨rfl, rfl, rfl, rfl⟩)
                clear FY FN NO YE
                exact ul_eq
              · have q2' : (rd == d) = false := beq_eq_false_iff_ne.2 q2
                have FS : Hid ((List.range (k + 1)).filter (toV a ad e d) = (List.range k).filter (toV a ad e d) ++ [k]) := FY.out (NO.out (by simp [q2]))
                clear FY FN NO YE
                exact ul_tu
            · have q1' : (re == e) = false := beq_eq_false_iff_ne.2 q1
              have FS : Hid ((List.range (k + 1)).filter (toV a ad e d) = (List.range k).filter (toV a ad e d) ++ [k]) := FY.out (NO.out (by simp [q1]))
              clear FY FN NO YE
              exact ul_tt
    · obtain rfl : k = n := by omega
      have hge : ¬ (k : Int) < (k : Int) := by omega
      have FIN : Hid (OwnN17 wr w.heap.size u7 ((List.range k).filter (toV a ad e d)) ∧ Below w.heap.size w wr) := ⟨row_base17 hO (Nat.le_of_lt lu), Bu.step16 hB.out Bu.size⟩
      clear hO hB
      go_wp2
      exact bodyPost_ret (v := u7) (by simp [results, Tryz.results38, go_sem]) rfl ⟨u7, rfl, FIN.out⟩
end Go.Proofs.YtgahaebfgmbckaaGreat.Gf
