/- TEXTS JOINED: MeAw, MeKp. -/
import Derived.Test.YtclieefpnbdbjaaGreatRome41
import Derived.Test.YtclieefpnbdbjaaGreatRome43
import Derived.Test.YtclieefpnbdbjaaGreatRome46
import Derived.Test.YtclieefpnbdbjaaGreatRome15
namespace Go.Proofs.YtclieefpnbdbjaaGreat.Gf
set_option linter.unusedVariables false
set_option linter.unusedSimpArgs false
open Go.RowKit
theorem mtiny_any {w : World} : Calls Tryz.prog 32 #[] w fun e w' => e = .returned (aggG tyG) ∧ Below w.heap.size w w' := by
  have b := belR w (.cells #[.int .i64 1, .int .i64 1, .int .i64 1, .int .i64 2, .int .i64 2, .int .i64 2] 23)
  go_enter Tryz.func32, Tryz.ntmps32
  go_wp2
  exact bodyPost_ret (v := aggG tyG) (by simp [results, Tryz.results32, go_sem]; rfl) rfl ⟨rfl, b⟩
theorem RdB.turnG {G : Nat → Prop} {w w' : World} {v : Value} {h : List Bool} (r : RdB w v h) (ha : ApartG G v) (ho : TurnG G w w') : RdB w' v h := by
  obtain ⟨a, cap, h1, h2, h3, h4, h5⟩ := r
  refine ⟨a, cap, h1, h2, h3, h4, fun i hi => ?_⟩
  obtain ⟨b, off, k1, k2, k3⟩ := h5 i hi
  have hb : ¬ G b := by
    rcases ha ⟨b, off, none⟩ h.length cap (by rw [h1, k1]) with e | e
    · omega
    · exact e
  exact ⟨b, off, k1, Nat.lt_of_lt_of_le k2 ho.size, (ho.cell (p := ⟨b, off + i, none⟩) k2 hb).trans k3⟩
/-- bools that were told, apart from the array -/
structure ToldB (w : World) (G : Nat → Prop) (v : Value) (h : List Bool) : Prop where
  rd : RdB w v h
  ap : ApartG G v
section
variable {w w' : World} {G G' : Nat → Prop} {v : Value} {h : List Bool}
theorem ToldB.below (t : ToldB w G v h) (b : Below w.heap.size w w') : ToldB w' G v h := ⟨t.rd.below b, t.ap⟩
theorem ToldB.grew (t : ToldB w G v h) (g : Grew G w G' w') : ToldB w' G' v h := ⟨t.rd.turnG t.ap g.turn, fun x n c e => by
  rcases t.ap x n c e with k | k
  · exact Or.inl k
  · obtain ⟨a, cap, h1, h2, h3, h4, h5⟩ := t.rd
    by_cases z : h.length = 0
    · left; rw [h1] at e; simp at e; omega
    · obtain ⟨b, off, k1, k2, k3⟩ := h5 0 (by omega)
      right
      have e2 : x = ⟨b, off, none⟩ := by rw [h1, k1] at e; simp at e; exact e.1.symm
      rw [e2] at k ⊢
      exact g.off k2 k⟩
end
/-- one cell of a variable, apart from the array -/
structure CellAt (w : World) (G : Nat → Prop) (b j : Nat) (x : Value) : Prop where
  at_ : w.cell? ⟨b, j, none⟩ = some x
  lt : b < w.heap.size
  ap : ¬ G b
section
variable {w w' : World} {G G' : Nat → Prop} {b j : Nat} {x : Value}
theorem CellAt.below (t : CellAt w G b j x) (h : Below w.heap.size w w') : CellAt w' G b j x := ⟨(h.cell (p := ⟨b, j, none⟩) t.lt).trans t.at_, Nat.lt_of_lt_of_le t.lt h.size, t.ap⟩
theorem CellAt.grew (t : CellAt w G b j x) (g : Grew G w G' w') : CellAt w' G' b j x := ⟨(g.turn.cell (p := ⟨b, j, none⟩) t.lt t.ap).trans t.at_, Nat.lt_of_lt_of_le t.lt g.turn.size, g.off t.lt t.ap⟩
end
/-- the record's variable -/
def Rec4 (w : World) (G : Nat → Prop) (rb : Nat) : Prop := CellAt w G rb 0 (.int .i64 1) ∧ CellAt w G rb 1 (.string ⟨#[97]⟩) ∧ CellAt w G rb 2 (.int .i64 0) ∧ CellAt w G rb 3 (.slice none 0 0)
section
variable {w w' : World} {G G' : Nat → Prop} {rb : Nat}
theorem Rec4.below (t : Rec4 w G rb) (h : Below w.heap.size w w') : Rec4 w' G rb := ⟨t.1.below h, t.2.1.below h, t.2.2.1.below h, t.2.2.2.below h⟩
theorem Rec4.grew (t : Rec4 w G rb) (g : Grew G w G' w') : Rec4 w' G' rb := ⟨t.1.grew g, t.2.1.grew g, t.2.2.1.grew g, t.2.2.2.grew g⟩
end
def Rec4c (rb : Nat) (w : World) : Prop := w.cell? ⟨rb, 0, none⟩ = some (.int .i64 1) ∧ w.cell? ⟨rb, 1, none⟩ = some (.string ⟨#[97]⟩) ∧ w.cell? ⟨rb, 2, none⟩ = some (.int .i64 0) ∧ w.cell? ⟨rb, 3, none⟩ = some (.slice none 0 0)
theorem Rec4.cells {w : World} {G : Nat → Prop} {rb : Nat} (t : Rec4 w G rb) : Rec4c rb w := ⟨t.1.at_, t.2.1.at_, t.2.2.1.at_, t.2.2.2.at_⟩
theorem rec_in18 (w : World) : RcV.In w ⟨awR, .slice none 0 0⟩ := ⟨by decide, by decide, by decide, Or.inl ⟨none, 0, rfl, rfl⟩, by decide⟩
theorem ty_wf : tyG.Wf := ⟨by decide, by decide, by decide, by decide, by decide, by decide⟩
set_option maxRecDepth 100000 in
set_option maxHeartbeats 4000000 in
theorem awake18_any {w : World} : Calls Tryz.prog 7 #[] w fun e w' => e = .returned (.bool true) ∧ Below w.heap.size w w' := by
  go_enter Tryz.func7, Tryz.ntmps7
  go_wp2_with fail
  refine (anew_is (n := 2) (s := 9) (m := 2) (k := 9) rfl (by decide) (by decide) (by decide) (by decide) rfl).mono ?_
  rintro _ u1 ⟨ab, G1, rfl, A1, H1, B1⟩
  have S1 : ArB u1 w.heap.size ab G1 (newA 2 9) := ⟨A1, H1, B1.size⟩
  have C1 : Below w.heap.size w u1 := B1
  clear A1 H1 B1
  go_wp2_with fail
  have bR := belR u1 (.cells #[.int .i64 1, .string ⟨#[97]⟩, .int .i64 0, .slice none 0 0] 38)
  have R2 : Rec4 (u1.alloc (.cells #[.int .i64 1, .string ⟨#[97]⟩, .int .i64 0, .slice none 0 0] 38)) G1 u1.heap.size := by
    obtain ⟨z0, z1, z2, z3, bz, zf, lz⟩ := @lay4r u1 (.int .i64 1) (.string ⟨#[97]⟩) (.int .i64 0) (.slice none 0 0) 38
    have n : ¬ G1 u1.heap.size := fun k => Nat.lt_irrefl _ (S1.at_.lt _ k)
    exact ⟨⟨z0, lz, n⟩, ⟨z1, lz, n⟩, ⟨z2, lz, n⟩, ⟨z3, lz, n⟩⟩
  have S2 := S1.below bR
  have C2 := C1.step16 bR C1.size
  obtain ⟨rb, hrb⟩ : ∃ rb, Hid (rb = u1.heap.size) := ⟨_, rfl⟩
  rw [← hrb.out] at R2
  obtain ⟨u2, hu2⟩ : ∃ u2, u2 = u1.alloc (.cells #[.int .i64 1, .string ⟨#[97]⟩, .int .i64 0, .slice none 0 0] 38) := ⟨_, rfl⟩
  rw [← hu2] at R2 S2 C2
  have s12 : u2.heap.size = rb + 1 := by rw [hu2, hrb.out]; simp
  have bI := belR u2 (.cells #[.int .i64 0, .int .i64 1] 3)
  have R3 := R2.below bI
  have S3 := S2.below bI
  have C3 := C2.step16 bI C2.size
  have K := mlabelA_any S3.at_ (dv := .slice (some ⟨u2.heap.size, 0, none⟩) 2 2) (l := [0, 1]) (fun W t => by
    refine (rdI_lit2 (w := u2) (n := 2) (e := 3) [0, 1] rfl rfl rfl (by decide)).turnG (fun x n c e => ?_) t
    simp at e
    right
    rw [← e.1]
    intro k
    exact Nat.lt_irrefl _ (S2.at_.lt _ k)) (by decide) (by decide)
  rw [aw_l, show lbS (newA 2 9) [0, 1] = aw1 from rfl] at K

  rw [s12] at K
  clear S1 C1 S2 C2 R2 bR bI
  rw [← hu2]
  rw [← hrb.out]
  refine K.mono ?_
  rintro _ u4 ⟨rfl, G4, A4, g4⟩
  have S4 := S3.grew A4 g4
  have R4 := R3.grew g4
  have C4 := C3.trans (S3.bel g4)
  clear K S3 R3 C3 A4 g4 hu2 s12
  obtain ⟨KL, hKL⟩ : ∃ KL, Hid (KL = knL aw1) := ⟨_, rfl⟩
  have kl2 : KL.length = 2 := by rw [hKL.out]; exact aw_k.2.1
  have f1 : ltX aw2 tyG KL = 0 := by rw [hKL.out]; exact aw_t.1
  have f2 : (ltA aw2 tyG KL).ep = 0 := by rw [hKL.out]; exact aw_t.2.1
  have f3 : rlX aw3 tyG KL 0 = 0 := by rw [hKL.out]; exact aw_r.1
  have f4 : rlR aw3 tyG KL 0 = [awR] := by rw [hKL.out]; exact aw_r.2
  have K := mknows_any S4.at_
  rw [aw_k.2.2, ← hKL.out] at K
  have HF := hidI (And.intro f1 (And.intro f2 (And.intro f3 f4)))
  have HK2 := hidI kl2
  clear f1 f2 f3 f4 kl2 hKL
  go_wp2_with fail
  refine K.mono ?_
  rintro _ u5 ⟨kv, rfl, rk, fk, b5⟩
  obtain ⟨ka, kc, ek⟩ := rk.form
  rw [HK2.out] at ek
  subst ek
  have T5 : ToldB u5 G4 (.slice ka 2 kc) KL := ⟨rk, fk.apart S4.at_.lt⟩
  have S5 := S4.below b5
  have R5 := R4.below b5
  have C5 := C4.step16 b5 C4.size
  clear K S4 R4 C4 rk fk b5
  go_wp2_with fail
  refine mtiny_any.mono ?_
  rintro _ u6 ⟨rfl, b6⟩
  have S6 := S5.below b6
  have R6 := R5.below b6
  have T6 := T5.below b6
  have C6 := C5.step16 b6 C5.size
  clear S5 R5 T5 C5 b6
  have K := msave_any S6.at_ ty_wf (ar := 0) (ep := 0) (by decide) (vs := .slice none 0 0) (L := []) (Or.inl ⟨none, 0, rfl, rfl⟩) (fun i hi => absurd hi (Nat.not_lt_zero i))
  rw [show oL [] = [] from rfl, aw_s.1, show svS aw1 tyG 0 0 [] = aw2 from rfl] at K
  go_wp2_with fail
  refine K.mono ?_
  rintro _ u7 ⟨rfl, G7, A7, g7⟩
  have S7 := S6.grew A7 g7
  have R7 := R6.grew g7
  have T7 := T6.grew g7
  have C7 := C6.trans (S6.bel g7)
  clear K S6 R6 T6 C6 A7 g7
  go_wp2_with fail
  refine mtiny_any.mono ?_
  rintro _ u8 ⟨rfl, b8⟩
  have S8 := S7.below b8
  have R8 := R7.below b8
  have T8 := T7.below b8
  have C8 := C7.step16 b8 C7.size
  clear S7 R7 T7 C7 b8
  have K := mlatest_any S8.at_ ty_wf T8.rd
  rw [HF.out.1] at K
  obtain ⟨A, hA⟩ : ∃ A, Hid (A = ltA aw2 tyG KL) := ⟨_, rfl⟩
  have e0 : A.ep = 0 := by rw [hA.out]; exact HF.out.2.1
  rw [← hA.out] at K
  obtain ⟨ar, ep, ob, wh, wi⟩ := A
  simp only at e0
  subst e0
  clear hA
  go_wp2_with fail
  refine K.mono ?_
  rintro _ u9 ⟨lv, LL, rfl, rl, el, b9⟩
  obtain ⟨la, lc, elv⟩ := rl.form
  subst elv
  simp only
  have S9 := S8.below b9
  have R9 := R8.below b9
  have T9 := T8.below b9
  have C9 := C8.step16 b9 C8.size
  have ba := belR u9 (.cells #[.int .i64 ar, .int .i64 0, .slice la LL.length lc] 41)
  obtain ⟨z0, z1, z2, bz, zf, lz⟩ := @lay3 u9 (.int .i64 ar) (.int .i64 0) (.slice la LL.length lc) 41
  have L10 : CellAt (u9.alloc (.cells #[.int .i64 ar, .int .i64 0, .slice la LL.length lc] 41)) G7 u9.heap.size 1 (.int .i64 0) := ⟨z1, lz, fun k => Nat.lt_irrefl _ (S9.at_.lt _ k)⟩
  have S10 := S9.below ba
  have R10 := R9.below ba
  have T10 := T9.below ba
  have C10 := C9.step16 ba C9.size
  obtain ⟨u10, hu10⟩ : ∃ u10, u10 = u9.alloc (.cells #[.int .i64 ar, .int .i64 0, .slice la LL.length lc] 41) := ⟨_, rfl⟩
  obtain ⟨lb, hlb⟩ : ∃ lb, lb = u9.heap.size := ⟨_, rfl⟩
  rw [← hu10] at L10 S10 R10 T10 C10
  rw [← hlb] at L10
  clear K S8 R8 T8 C8 S9 R9 T9 C9 ba z0 z1 z2 bz zf lz rl el b9
  go_upto_region 9 with fail
  rw [← hu10]
  rw [← hlb]
  clear hu10 hlb
  have KAP : ∀ V, Below u10.heap.size u10 V → Calls Tryz.prog 28 #[.pointer (some ⟨ab, 0, none⟩), aggG tyG, .int .i64 0, .int .i64 0, .agg #[.int .i64 1, .string ⟨#[97]⟩, .int .i64 0, .slice none 0 0]] V (LeavesA V ab G7 aw3 (.int .i64 0)) := fun V b => by
    have K := mappend_any (S10.at_.below b) ty_wf (base := 0) (count := 0) (by decide) (rec_in18 V)
    rw [show (⟨awR, Value.slice none 0 0⟩ : RcV).r = awR from rfl, aw_a.1, show apS aw2 tyG 0 0 awR = aw3 from rfl] at K
    exact K
  have BD : Below u10.heap.size u10 u10.drew := (Below.refl _ _).drew
  have RB := hidI (fun V (b : Below u10.heap.size u10 V) => R10.below b)
  have RC := hidI (fun V (b : Below u10.heap.size u10 V) => (R10.below b).cells)
  have sD := RC.out _ BD
  go_cut [10] from 40 to 43 (fun s10 wx => s10 = .int .i64 0 ∧ ∃ V G, Below u10.heap.size u10 V ∧ ArAt wx ab G aw3 ∧ Grew G7 V G wx)
  case first =>
    refine wp_region_held_drew (S := fun wx => wx.cell? ⟨rb, 0, none⟩ = some (.int .i64 1) ∧ wx.cell? ⟨rb, 1, none⟩ = some (.string ⟨#[97]⟩) ∧ wx.cell? ⟨rb, 2, none⟩ = some (.int .i64 0) ∧ wx.cell? ⟨rb, 3, none⟩ = some (.slice none 0 0)) (by kernel_rfl) sD (fun hHeld => ?_)
    refine tkH 0 ?_
    refine tkH 2 ?_
    refine rnH 1 (fun K' hK => ?_)
    go_simp
    go_at_call 32
    refine mtiny_any.mono ?_
    rintro _ v1 ⟨rfl, bt⟩
    dsimp only
    have BV : Below u10.heap.size u10 v1 := BD.step16 bt BD.size
    refine koH hK (RC.out _ BV) fun hHeld => ?_
    clear hK K'
    refine rnH 3 (fun K' hK => ?_)
    go_simp
    go_at_call 28
    refine (KAP _ BV).mono ?_
    rintro _ v2 ⟨rfl, Gx, Ax, gx⟩
    dsimp only
    refine koH hK ((RB.out _ BV).grew gx).cells fun hHeld => ?_
    clear hK K'
    have REL := hidI (⟨v1, Gx, BV, Ax, gx⟩ : ∃ V G, Below u10.heap.size u10 V ∧ ArAt v2 ab G aw3 ∧ Grew G7 V G v2)
    refine tkH 4 ?_
    refine wpAnyH_done (by kernel_rfl) ?_ _
    go_wp2
    go_meet
    case rel => exact ⟨rfl, REL.out⟩
  case rest =>
    obtain ⟨rfl, V, G8, bV, A8, g8⟩ := hcut
    have S11 := (S10.below bV).grew A8 g8
    have R11 := (RB.out _ bV).grew g8
    have T11 := (T10.below bV).grew g8
    have L11 := (L10.below bV).grew g8
    have C11 := (C10.step16 bV C10.size).trans ((S10.below bV).bel g8)
    clear S10 RB RC T10 L10 C10 bV A8 g8 KAP BD sD R10
    go_wp2_with fail
    refine mtiny_any.mono ?_
    rintro _ u12 ⟨rfl, b12⟩
    have S12 := S11.below b12
    have R12 := R11.below b12
    have T12 := T11.below b12
    have L12 := L11.below b12
    have C12 := C11.step16 b12 C11.size
    clear S11 R11 T11 L11 C11 b12
    have K := mreplay_any S12.at_ ty_wf T12.rd (base := 0)
    rw [HF.out.2.2.1, HF.out.2.2.2] at K
    go_wp2_with fail
    refine K.mono ?_
    rintro _ u13 ⟨rv, RL, rfl, ro, er, b13⟩
    have rl1 : RL.length = 1 := by
      have := congrArg List.length er
      simpa using this
    obtain ⟨ra, rc, erv⟩ := (ro.rd (by omega)).form
    rw [rl1] at erv
    subst erv
    have S13 := S12.below b13
    have R13 := R12.below b13
    have L13 := L12.below b13
    have C13 := C12.step16 b13 C12.size
    clear K S12 R12 T12 L12 C12 ro er b13 rl1
    have KAP : ∀ V, Below u13.heap.size u13 V → Calls Tryz.prog 28 #[.pointer (some ⟨ab, 0, none⟩), aggG tyG, .int .i64 0, .int .i64 2, .agg #[.int .i64 1, .string ⟨#[97]⟩, .int .i64 0, .slice none 0 0]] V (LeavesA V ab G8 (apS aw3 tyG 0 2 awR) (.int .i64 180)) := fun V b => by
      have K := mappend_any (S13.at_.below b) ty_wf (base := 0) (count := 2) (by decide) (rec_in18 V)
      rw [show (⟨awR, Value.slice none 0 0⟩ : RcV).r = awR from rfl, aw_f] at K
      exact K
    have BD : Below u13.heap.size u13 u13.drew := (Below.refl _ _).drew
    have RB := hidI (fun V (b : Below u13.heap.size u13 V) => R13.below b)
    have RC := hidI (fun V (b : Below u13.heap.size u13 V) => (R13.below b).cells)
    have sD := RC.out _ BD
    go_upto_region 11 with fail
    go_cut [13] from 51 to 54 (fun s13 wx => s13 = .int .i64 180 ∧ ∃ V G, Below u13.heap.size u13 V ∧ ArAt wx ab G (apS aw3 tyG 0 2 awR) ∧ Grew G8 V G wx)
    case first =>
      refine wp_region_held_drew (S := fun wx => wx.cell? ⟨rb, 0, none⟩ = some (.int .i64 1) ∧ wx.cell? ⟨rb, 1, none⟩ = some (.string ⟨#[97]⟩) ∧ wx.cell? ⟨rb, 2, none⟩ = some (.int .i64 0) ∧ wx.cell? ⟨rb, 3, none⟩ = some (.slice none 0 0)) (by kernel_rfl) sD (fun hHeld => ?_)
      refine tkH 0 ?_
      refine tkH 2 ?_
      refine rnH 1 (fun K' hK => ?_)
      go_simp
      go_at_call 32
      refine mtiny_any.mono ?_
      rintro _ v1 ⟨rfl, bt⟩
      dsimp only
      have BV : Below u13.heap.size u13 v1 := BD.step16 bt BD.size
      refine koH hK (RC.out _ BV) fun hHeld => ?_
      clear hK K'
      refine rnH 3 (fun K' hK => ?_)
      go_simp
      go_at_call 28
      refine (KAP _ BV).mono ?_
      rintro _ v2 ⟨rfl, Gx, Ax, gx⟩
      dsimp only
      refine koH hK ((RB.out _ BV).grew gx).cells fun hHeld => ?_
      clear hK K'
      have REL := hidI (⟨v1, Gx, BV, Ax, gx⟩ : ∃ V G, Below u13.heap.size u13 V ∧ ArAt v2 ab G (apS aw3 tyG 0 2 awR) ∧ Grew G8 V G v2)
      refine tkH 4 ?_
      refine wpAnyH_done (by kernel_rfl) ?_ _
      go_wp2
      go_meet
      case rel => exact ⟨rfl, REL.out⟩
    case rest =>
      obtain ⟨rfl, V, G9, bV, A9, g9⟩ := hcut
      have L14 := (L13.below bV).grew g9
      have C14 : Hid (Below w.heap.size w wc) := (C13.step16 bV C13.size).trans ((S13.below bV).bel g9)
      have l1 := L14.at_
      clear S13 RB RC L13 C13 bV A9 g9 KAP BD sD R13 L14
      go_wp2
      go_ret
      exact ⟨rfl, C14.out⟩
end Go.Proofs.YtclieefpnbdbjaaGreat.Gf

namespace Go.Proofs.YtclieefpnbdbjaaGreat.Gf
set_option linter.unusedVariables false
set_option linter.unusedSimpArgs false
open Go.RowKit
theorem hidP {p : Prop} (h : p) : Hid p := h
/-- records that were handed in, in a row of the call's own -/
def Kept18 (w : World) (L : List RcV) (R : List RcS) (e : Ending) (w' : World) : Prop := ∃ u M, e = .returned u ∧ OwnRc w' 0 u M ∧ (∀ q, u.ownBlock = some q → w.heap.size ≤ q) ∧ M.map (·.r) = R ∧ (∀ c ∈ M, c ∈ L) ∧ Below w.heap.size w w'
set_option maxRecDepth 100000 in
set_option maxHeartbeats 4000000 in
theorem kept18_any {w : World} {g : GeoS} {v : Value} {L : List RcV} (h : RdR w v L) : Calls Tryz.prog 22 #[aggG g, v] w (Kept18 w L (kpL g (L.map (·.r)) (min 20 L.length))) := by
  obtain ⟨va, vc, rfl⟩ := h.form
  have HR := hidP h
  have LG := geo_laid w g 23
  have KF := hidP (fun r hh k => @kp_full g (L.map (·.r)) r hh k)
  have KL := hidP (fun r => kp_le g (L.map (·.r)) r)
  have KS : Hid (∀ r, r < L.length → kpL g (L.map (·.r)) (r + 1) = if OkR (L.getD r default).r ∧ (kpL g (L.map (·.r)) r).length < g.t.toNat then kpL g (L.map (·.r)) r ++ [(L.getD r default).r] else kpL g (L.map (·.r)) r) := fun r hr => by
    have e : (L.map (·.r)).getD r default = (L.getD r default).r := by simp [List.getD, hr]
    rw [← e]; rfl
  clear h
  obtain ⟨k, m, z, s, t, o⟩ := g
  rw [aggE]
  obtain ⟨W, hW⟩ : ∃ W, W = w.alloc (.cells #[.int .i64 k, .int .i64 m, .int .i64 z, .int .i64 s, .int .i64 t, .int .i64 o] 23) := ⟨_, rfl⟩
  have LG2 : Hid (∀ V, Below W.heap.size W V → GeoAt V w.heap.size ⟨k, m, z, s, t, o⟩ ∧ Below w.heap.size w V) := by rw [hW]; exact LG
  clear LG
  go_enter Tryz.func22, Tryz.ntmps22
  go_wp2_with fail
  rw [← hW]
  clear hW
  go_loopw [5, 6] (fun ov i wr => ∃ (r : Nat) (M : List RcV), r ≤ L.length ∧ r ≤ 20 ∧ i = .int .i64 (r : Int) ∧ Hid (OwnRc wr 0 ov M) ∧ Hid (∀ q, ov.ownBlock = some q → W.heap.size ≤ q) ∧ Hid (M.map (·.r) = kpL ⟨k, m, z, s, t, o⟩ (L.map (·.r)) r) ∧ Hid (∀ c ∈ M, c ∈ L) ∧ Hid (Below W.heap.size W wr)) (fun _ i _ => L.length - (intOf i).toNat)
  case atStart => exact ⟨0, [], Nat.zero_le _, Nat.zero_le _, rfl, OwnRc.nil _ _, (fun q hq => by cases hq), rfl, (fun c hc => by cases hc), Below.refl _ _⟩
  case round =>
    obtain ⟨r, M, hr, hr2, rfl, hO, hq, hM, hC, hB⟩ := hrel
    have BW := (LG2.out _ hB.out).2
    obtain ⟨⟨x0, x1, x2, x3, x4, x5⟩, _⟩ := LG2.out _ hB.out
    simp only at x4
    clear x0 x1 x2 x3 x5
    have hm : M.length ≤ r := by
      have e1 := congrArg List.length hM.out
      have e2 := (KL.out r).2
      rw [List.length_map] at e1
      omega
    have hmk : Hid (M.length = (kpL ⟨k, m, z, s, t, o⟩ (L.map (·.r)) r).length) := by
      have := congrArg List.length hM.out
      rw [List.length_map] at this
      exact this
    obtain ⟨oa, oc, rfl⟩ := (hO.out.rd (by omega)).form
    have wq : w.heap.size ≤ W.heap.size := (LG2.out _ (Below.refl _ _)).2.size
    have FIN : Hid (kpL ⟨k, m, z, s, t, o⟩ (L.map (·.r)) r = kpL ⟨k, m, z, s, t, o⟩ (L.map (·.r)) (min 20 L.length) → Kept18 w L (kpL ⟨k, m, z, s, t, o⟩ (L.map (·.r)) (min 20 L.length)) (.returned (.slice oa M.length oc)) wr) := fun e => ⟨_, M, rfl, hO.out, fun q hh => Nat.le_trans wq (hq.out q hh), by rw [hM.out, e], hC.out, BW⟩
    by_cases c1 : r < L.length
    rotate_left
    · have c1' : ¬ (r : Int) < (L.length : Int) := by omega
      have F := hidP (FIN.out (by rw [show min 20 L.length = r by omega]))
      clear FIN KF KS KL hO hq hM hC hB BW hmk
      go_wp2
      exact bodyPost_ret (v := .slice oa M.length oc) (by simp [results, Tryz.results22, go_sem]) rfl F.out
    by_cases c2 : r < 20
    rotate_left
    · have c1' : (r : Int) < (L.length : Int) := by omega
      have c2' : ¬ (r : Int) < 20 := by omega
      have F := hidP (FIN.out (by rw [show min 20 L.length = r by omega]))
      clear FIN KF KS KL hO hq hM hC hB BW hmk
      go_wp2
      exact bodyPost_ret (v := .slice oa M.length oc) (by simp [results, Tryz.results22, go_sem]) rfl F.out
    have c1' : (r : Int) < (L.length : Int) := by omega
    have c2' : (r : Int) < 20 := by omega
    by_cases c3 : (M.length : Int) < t
    rotate_left
    · have F := hidP (FIN.out (by
        have e := KF.out r (by have h1 : (kpL ⟨k, m, z, s, t, o⟩ (L.map (·.r)) r).length ≤ t.toNat := (KL.out r).1; have h2 := hmk.out; omega) (min 20 L.length - r)
        rw [show r + (min 20 L.length - r) = min 20 L.length by omega] at e
        exact e.symm))
      clear FIN KF KS KL hO hq hM hC hB BW hmk
      go_wp2
      exact bodyPost_ret (v := .slice oa M.length oc) (by simp [results, Tryz.results22, go_sem]) rfl F.out
    have KSr := KS.out r c1
    have c4 : (kpL ⟨k, m, z, s, t, o⟩ (L.map (·.r)) r).length < t.toNat := by
      have h2 := hmk.out
      omega
    have Lr : L.getD r default ∈ L := by
      rw [show L.getD r default = L[r] by simp [List.getD, c1]]
      exact List.getElem_mem c1
    obtain ⟨b, off, eva, hb, cz⟩ := (HR.out.below BW).at c1
    obtain ⟨b2, off2, eva2, hb2, cz2⟩ := HR.out.at c1
    subst eva
    generalize L.getD r default = c at cz cz2 KSr Lr
    have IN := cz.ok
    have IN2 := cz2.ok
    have NR : Hid (NearR 0 wr.heap.size (.slice oa M.length oc) c.vs) := fun x n cc e => by
      rcases IN2.rs.lay e with q | q
      · exact Or.inl q
      · refine Or.inr ⟨Nat.zero_le _, Nat.lt_of_lt_of_le q BW.size, fun e2 => ?_⟩
        have := hq.out _ e2
        omega
    obtain ⟨⟨kd, ky, ln, st⟩, vs⟩ := c
    obtain ⟨a2, c2v, e⟩ := IN.rs.form
    simp only at e
    subst e
    have z0 : wr.cell? ⟨b, off + r * 4, none⟩ = some (.int .i64 kd) := cz.c0
    have z1 : wr.cell? ⟨b, off + r * 4 + 1, none⟩ = some (.string ⟨ky.toArray⟩) := cz.c1
    have z2 : wr.cell? ⟨b, off + r * 4 + 2, none⟩ = some (.int .i64 ln) := cz.c2
    have z3 : wr.cell? ⟨b, off + r * 4 + 3, none⟩ = some (.slice a2 st.length c2v) := cz.c3
    obtain ⟨X, hX⟩ : ∃ X, Hid (chR ⟨kd, ky, ln, st⟩ = X) := ⟨_, rfl⟩
    have K : Calls Tryz.prog 25 #[.agg #[.int .i64 kd, .string ⟨ky.toArray⟩, .int .i64 ln, .slice a2 st.length c2v]] wr (fun e w' => e = .returned (.int .i64 X) ∧ Below wr.heap.size wr w') := chk16_any (c := ⟨⟨kd, ky, ln, st⟩, .slice a2 st.length c2v⟩) IN hX.out
    have HLr := hidP Lr
    have HCZ := hidP cz
    have HIN := hidP IN
    clear FIN KF KS KL cz cz2 IN2 IN hb2 eva2 Lr
    go_wp2_with fail
    refine K.mono ?_
    rintro _ w2 ⟨rfl, b2⟩
    clear K z0 z1 z2 z3
    have B2 := hidP (hB.out.step16 b2 hB.out.size)
    have O2 := hO.out.later b2
    have NR2 : NearR 0 w2.heap.size (.slice oa M.length oc) (.slice a2 st.length c2v) := NR.out.mono b2.size
    have cz := HCZ.out.below hb b2
    have IN := HIN.out.below b2
    have z0 : w2.cell? ⟨b, off + r * 4, none⟩ = some (.int .i64 kd) := cz.c0
    have z1 : w2.cell? ⟨b, off + r * 4 + 1, none⟩ = some (.string ⟨ky.toArray⟩) := cz.c1
    have z2 : w2.cell? ⟨b, off + r * 4 + 2, none⟩ = some (.int .i64 ln) := cz.c2
    have z3 : w2.cell? ⟨b, off + r * 4 + 3, none⟩ = some (.slice a2 st.length c2v) := cz.c3
    have s2 : 0 ≤ w2.heap.size := Nat.zero_le _
    have Ml : M.length ≤ 100000 := by omega
    have sW : W.heap.size ≤ w2.heap.size := B2.out.size
    clear hO NR HCZ HIN cz hB b2 BW
    by_cases ok : OkR ⟨kd, ky, ln, st⟩
    · have eX : X = 0 := by rw [← hX.out]; exact if_pos ok
      have M2 : Hid ((M ++ [(⟨⟨kd, ky, ln, st⟩, .slice a2 st.length c2v⟩ : RcV)]).map (·.r) = kpL ⟨k, m, z, s, t, o⟩ (L.map (·.r)) (r + 1)) := by
        show _ = _
        rw [KSr, if_pos ⟨ok, c4⟩, List.map_append, hM.out]; rfl
      subst eX
      clear hX KSr hM
      go_wp2_with (at_builtin; go_loud (refine wpList_append_rc (w := w2) (c := ⟨⟨kd, ky, ln, st⟩, .slice a2 st.length c2v⟩) rfl (.tmp 30) (.tmp 35) rfl rfl rfl O2 IN NR2 rfl rfl rfl Ml s2 ?_); go_loud (intro v7 w7 o7 G7))
      have q7 : Hid (∀ q, v7.ownBlock = some q → W.heap.size ≤ q) := fun q hh => by
        rcases G7.pl with e | ⟨j, e, hj⟩
        · rw [e] at hh; exact hq.out q hh
        · rw [e] at hh; simp at hh; omega
      have B7 : Hid (Below W.heap.size W w7) := B2.out.grown G7.gr sW (fun q hh => hq.out q hh)
      have C7 : Hid (∀ c ∈ M ++ [(⟨⟨kd, ky, ln, st⟩, .slice a2 st.length c2v⟩ : RcV)], c ∈ L) := fun c hc => by
        rcases List.mem_append.1 hc with hc | hc
        · exact hC.out c hc
        · simp only [List.mem_singleton] at hc
          rw [hc]; exact HLr.out
      have O7 := hidP o7
      clear G7 o7 O2 NR2 IN z0 z1 z2 z3 hq
      go_roundw
      case rel => exact ⟨r + 1, _, by omega, by omega, by go_num, O7, q7, M2, C7, B7⟩
      case measure => simp [intOf]; omega
    · have eX : (X == 0) = false := by
        rw [← hX.out, show chR ⟨kd, ky, ln, st⟩ = 1 from if_neg ok]; rfl
      have M2 : Hid (M.map (·.r) = kpL ⟨k, m, z, s, t, o⟩ (L.map (·.r)) (r + 1)) := by
        show _ = _
        rw [KSr, if_neg (fun q => ok q.1), hM.out]
      have O7 := hidP O2
      clear hX KSr hM O2 NR2 IN z0 z1 z2 z3
      go_wp2
      go_roundw
      case rel => exact ⟨r + 1, M, by omega, by omega, by go_num, O7, hq, M2, hC, B2⟩
      case measure => simp [intOf]; omega
end Go.Proofs.YtclieefpnbdbjaaGreat.Gf
