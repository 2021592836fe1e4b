/- TEXTS JOINED: MeAw, MeAm. -/
import Derived.Test.YtclieefpnbdbjaaGreatTome34
import Derived.Test.YtclieefpnbdbjaaGreatTome38
import Derived.Test.YtclieefpnbdbjaaGreatTome40
import Derived.Test.YtclieefpnbdbjaaGreatTome43
import Derived.Test.YtclieefpnbdbjaaGreatTome15
namespace Go.Proofs.YtclieefpnbdbjaaGreat.Gf
set_option linter.unusedVariables false
set_option linter.unusedSimpArgs false
open Go.RowKit
theorem mtiny_any {w : World} : Calls Tryz.prog 32 #[] w fun e w' => e = .returned (aggG tyG) ∧ Below w.heap.size w w' := by
  have b := belR w (.cells #[.int .i64 1, .int .i64 1, .int .i64 1, .int .i64 2, .int .i64 2, .int .i64 2] 23)
  go_enter Tryz.func32, Tryz.ntmps32
  go_wp2
  exact bodyPost_ret (v := aggG tyG) (by simp [results, Tryz.results32, go_sem]; rfl) rfl ⟨rfl, b⟩
theorem RdB.turnG {G : Nat → Prop} {w w' : World} {v : Value} {h : List Bool} (r : RdB w v h) (ha : ApartG G v) (ho : TurnG G w w') : RdB w' v h := by
  obtain ⟨a, cap, h1, h2, h3, h4, h5⟩ := r
  refine ⟨a, cap, h1, h2, h3, h4, fun i hi => ?_⟩
  obtain ⟨b, off, k1, k2, k3⟩ := h5 i hi
  have hb : ¬ G b := by
    rcases ha ⟨b, off, none⟩ h.length cap (by rw [h1, k1]) with e | e
    · omega
    · exact e
  exact ⟨b, off, k1, Nat.lt_of_lt_of_le k2 ho.size, (ho.cell (p := ⟨b, off + i, none⟩) k2 hb).trans k3⟩
/-- bools that were told, apart from the array -/
structure ToldB (w : World) (G : Nat → Prop) (v : Value) (h : List Bool) : Prop where
  rd : RdB w v h
  ap : ApartG G v
section
variable {w w' : World} {G G' : Nat → Prop} {v : Value} {h : List Bool}
theorem ToldB.below (t : ToldB w G v h) (b : Below w.heap.size w w') : ToldB w' G v h := ⟨t.rd.below b, t.ap⟩
theorem ToldB.grew (t : ToldB w G v h) (g : Grew G w G' w') : ToldB w' G' v h := ⟨t.rd.turnG t.ap g.turn, fun x n c e => by
  rcases t.ap x n c e with k | k
  · exact Or.inl k
  · obtain ⟨a, cap, h1, h2, h3, h4, h5⟩ := t.rd
    by_cases z : h.length = 0
    · left; rw [h1] at e; simp at e; omega
    · obtain ⟨b, off, k1, k2, k3⟩ := h5 0 (by omega)
      right
      have e2 : x = ⟨b, off, none⟩ := by rw [h1, k1] at e; simp at e; exact e.1.symm
      rw [e2] at k ⊢
      exact g.off k2 k⟩
end
/-- one cell of a variable, apart from the array -/
structure CellAt (w : World) (G : Nat → Prop) (b j : Nat) (x : Value) : Prop where
  at_ : w.cell? ⟨b, j, none⟩ = some x
  lt : b < w.heap.size
  ap : ¬ G b
section
variable {w w' : World} {G G' : Nat → Prop} {b j : Nat} {x : Value}
theorem CellAt.below (t : CellAt w G b j x) (h : Below w.heap.size w w') : CellAt w' G b j x := ⟨(h.cell (p := ⟨b, j, none⟩) t.lt).trans t.at_, Nat.lt_of_lt_of_le t.lt h.size, t.ap⟩
theorem CellAt.grew (t : CellAt w G b j x) (g : Grew G w G' w') : CellAt w' G' b j x := ⟨(g.turn.cell (p := ⟨b, j, none⟩) t.lt t.ap).trans t.at_, Nat.lt_of_lt_of_le t.lt g.turn.size, g.off t.lt t.ap⟩
end
/-- the record's variable -/
def Rec4 (w : World) (G : Nat → Prop) (rb : Nat) : Prop := CellAt w G rb 0 (.int .i64 1) ∧ CellAt w G rb 1 (.string ⟨#[97]⟩) ∧ CellAt w G rb 2 (.int .i64 0) ∧ CellAt w G rb 3 (.slice none 0 0)
section
variable {w w' : World} {G G' : Nat → Prop} {rb : Nat}
theorem Rec4.below (t : Rec4 w G rb) (h : Below w.heap.size w w') : Rec4 w' G rb := ⟨t.1.below h, t.2.1.below h, t.2.2.1.below h, t.2.2.2.below h⟩
theorem Rec4.grew (t : Rec4 w G rb) (g : Grew G w G' w') : Rec4 w' G' rb := ⟨t.1.grew g, t.2.1.grew g, t.2.2.1.grew g, t.2.2.2.grew g⟩
end
def Rec4c (rb : Nat) (w : World) : Prop := w.cell? ⟨rb, 0, none⟩ = some (.int .i64 1) ∧ w.cell? ⟨rb, 1, none⟩ = some (.string ⟨#[97]⟩) ∧ w.cell? ⟨rb, 2, none⟩ = some (.int .i64 0) ∧ w.cell? ⟨rb, 3, none⟩ = some (.slice none 0 0)
theorem Rec4.cells {w : World} {G : Nat → Prop} {rb : Nat} (t : Rec4 w G rb) : Rec4c rb w := ⟨t.1.at_, t.2.1.at_, t.2.2.1.at_, t.2.2.2.at_⟩
theorem rec_in18 (w : World) : RcV.In w ⟨awR, .slice none 0 0⟩ := ⟨by decide, by decide, by decide, Or.inl ⟨none, 0, rfl, rfl⟩, by decide⟩
theorem ty_wf : tyG.Wf := ⟨by decide, by decide, by decide, by decide, by decide, by decide⟩
set_option maxRecDepth 100000 in
set_option maxHeartbeats 4000000 in
theorem awake18_any {w : World} : Calls Tryz.prog 7 #[] w fun e w' => e = .returned (.bool true) ∧ Below w.heap.size w w' := by
  go_enter Tryz.func7, Tryz.ntmps7
  go_wp2_with fail
  refine (anew_is (n := 2) (s := 9) (m := 2) (k := 9) rfl (by decide) (by decide) (by decide) (by decide) rfl).mono ?_
  rintro _ u1 ⟨ab, G1, rfl, A1, H1, B1⟩
  have S1 : ArB u1 w.heap.size ab G1 (newA 2 9) := ⟨A1, H1, B1.size⟩
  have C1 : Below w.heap.size w u1 := B1
  clear A1 H1 B1
  go_wp2_with fail
  have bR := belR u1 (.cells #[.int .i64 1, .string ⟨#[97]⟩, .int .i64 0, .slice none 0 0] 38)
  have R2 : Rec4 (u1.alloc (.cells #[.int .i64 1, .string ⟨#[97]⟩, .int .i64 0, .slice none 0 0] 38)) G1 u1.heap.size := by
    obtain ⟨z0, z1, z2, z3, bz, zf, lz⟩ := @lay4r u1 (.int .i64 1) (.string ⟨#[97]⟩) (.int .i64 0) (.slice none 0 0) 38
    have n : ¬ G1 u1.heap.size := fun k => Nat.lt_irrefl _ (S1.at_.lt _ k)
    exact ⟨⟨z0, lz, n⟩, ⟨z1, lz, n⟩, ⟨z2, lz, n⟩, ⟨z3, lz, n⟩⟩
  have S2 := S1.below bR
  have C2 := C1.step16 bR C1.size
  obtain ⟨rb, hrb⟩ : ∃ rb, Hid (rb = u1.heap.size) := ⟨_, rfl⟩
  rw [← hrb.out] at R2
  obtain ⟨u2, hu2⟩ : ∃ u2, u2 = u1.alloc (.cells #[.int .i64 1, .string ⟨#[97]⟩, .int .i64 0, .slice none 0 0] 38) := ⟨_, rfl⟩
  rw [← hu2] at R2 S2 C2
  have s12 : u2.heap.size = rb + 1 := by rw [hu2, hrb.out]; simp
  have bI := belR u2 (.cells #[.int .i64 0, .int .i64 1] 3)
  have R3 := R2.below bI
  have S3 := S2.below bI
  have C3 := C2.step16 bI C2.size
  have K := mlabelA_any S3.at_ (dv := .slice (some ⟨u2.heap.size, 0, none⟩) 2 2) (l := [0, 1]) (fun W t => by
    refine (rdI_lit2 (w := u2) (n := 2) (e := 3) [0, 1] rfl rfl rfl (by decide)).turnG (fun x n c e => ?_) t
    simp at e
    right
    rw [← e.1]
    intro k
    exact Nat.lt_irrefl _ (S2.at_.lt _ k)) (by decide) (by decide)
  rw [aw_l, show lbS (newA 2 9) [0, 1] = aw1 from rfl] at K

  rw [s12] at K
  clear S1 C1 S2 C2 R2 bR bI
  rw [← hu2]
  rw [← hrb.out]
  refine K.mono ?_
  rintro _ u4 ⟨rfl, G4, A4, g4⟩
  have S4 := S3.grew A4 g4
  have R4 := R3.grew g4
  have C4 := C3.trans (S3.bel g4)
  clear K S3 R3 C3 A4 g4 hu2 s12
  obtain ⟨KL, hKL⟩ : ∃ KL, Hid (KL = knL aw1) := ⟨_, rfl⟩
  have kl2 : KL.length = 2 := by rw [hKL.out]; exact aw_k.2.1
  have f1 : ltX aw2 tyG KL = 0 := by rw [hKL.out]; exact aw_t.1
  have f2 : (ltA aw2 tyG KL).ep = 0 := by rw [hKL.out]; exact aw_t.2.1
  have f3 : rlX aw3 tyG KL 0 = 0 := by rw [hKL.out]; exact aw_r.1
  have f4 : rlR aw3 tyG KL 0 = [awR] := by rw [hKL.out]; exact aw_r.2
  have K := mknows_any S4.at_
  rw [aw_k.2.2, ← hKL.out] at K
  have HF := hidI (And.intro f1 (And.intro f2 (And.intro f3 f4)))
  have HK2 := hidI kl2
  clear f1 f2 f3 f4 kl2 hKL
  go_wp2_with fail
  refine K.mono ?_
  rintro _ u5 ⟨kv, rfl, rk, fk, b5⟩
  obtain ⟨ka, kc, ek⟩ := rk.form
  rw [HK2.out] at ek
  subst ek
  have T5 : ToldB u5 G4 (.slice ka 2 kc) KL := ⟨rk, fk.apart S4.at_.lt⟩
  have S5 := S4.below b5
  have R5 := R4.below b5
  have C5 := C4.step16 b5 C4.size
  clear K S4 R4 C4 rk fk b5
  go_wp2_with fail
  refine mtiny_any.mono ?_
  rintro _ u6 ⟨rfl, b6⟩
  have S6 := S5.below b6
  have R6 := R5.below b6
  have T6 := T5.below b6
  have C6 := C5.step16 b6 C5.size
  clear S5 R5 T5 C5 b6
  have K := msave_any S6.at_ ty_wf (ar := 0) (ep := 0) (by decide) (vs := .slice none 0 0) (L := []) (Or.inl ⟨none, 0, rfl, rfl⟩) (fun i hi => absurd hi (Nat.not_lt_zero i))
  rw [show oL [] = [] from rfl, aw_s.1, show svS aw1 tyG 0 0 [] = aw2 from rfl] at K
  go_wp2_with fail
  refine K.mono ?_
  rintro _ u7 ⟨rfl, G7, A7, g7⟩
  have S7 := S6.grew A7 g7
  have R7 := R6.grew g7
  have T7 := T6.grew g7
  have C7 := C6.trans (S6.bel g7)
  clear K S6 R6 T6 C6 A7 g7
  go_wp2_with fail
  refine mtiny_any.mono ?_
  rintro _ u8 ⟨rfl, b8⟩
  have S8 := S7.below b8
  have R8 := R7.below b8
  have T8 := T7.below b8
  have C8 := C7.step16 b8 C7.size
  clear S7 R7 T7 C7 b8
  have K := mlatest_any S8.at_ ty_wf T8.rd
  rw [HF.out.1] at K
  obtain ⟨A, hA⟩ : ∃ A, Hid (A = ltA aw2 tyG KL) := ⟨_, rfl⟩
  have e0 : A.ep = 0 := by rw [hA.out]; exact HF.out.2.1
  rw [← hA.out] at K
  obtain ⟨ar, ep, ob, wh, wi⟩ := A
  simp only at e0
  subst e0
  clear hA
  go_wp2_with fail
  refine K.mono ?_
  rintro _ u9 ⟨lv, LL, rfl, rl, el, b9⟩
  obtain ⟨la, lc, elv⟩ := rl.form
  subst elv
  simp only
  have S9 := S8.below b9
  have R9 := R8.below b9
  have T9 := T8.below b9
  have C9 := C8.step16 b9 C8.size
  have ba := belR u9 (.cells #[.int .i64 ar, .int .i64 0, .slice la LL.length lc] 41)
  obtain ⟨z0, z1, z2, bz, zf, lz⟩ := @lay3 u9 (.int .i64 ar) (.int .i64 0) (.slice la LL.length lc) 41
  have L10 : CellAt (u9.alloc (.cells #[.int .i64 ar, .int .i64 0, .slice la LL.length lc] 41)) G7 u9.heap.size 1 (.int .i64 0) := ⟨z1, lz, fun k => Nat.lt_irrefl _ (S9.at_.lt _ k)⟩
  have S10 := S9.below ba
  have R10 := R9.below ba
  have T10 := T9.below ba
  have C10 := C9.step16 ba C9.size
  obtain ⟨u10, hu10⟩ : ∃ u10, u10 = u9.alloc (.cells #[.int .i64 ar, .int .i64 0, .slice la LL.length lc] 41) := ⟨_, rfl⟩
  obtain ⟨lb, hlb⟩ : ∃ lb, lb = u9.heap.size := ⟨_, rfl⟩
  rw [← hu10] at L10 S10 R10 T10 C10
  rw [← hlb] at L10
  clear K S8 R8 T8 C8 S9 R9 T9 C9 ba z0 z1 z2 bz zf lz rl el b9
  go_upto_region 9 with fail
  rw [← hu10]
  rw [← hlb]
  clear hu10 hlb
  have KAP : ∀ V, Below u10.heap.size u10 V → Calls Tryz.prog 28 #[.pointer (some ⟨ab, 0, none⟩), aggG tyG, .int .i64 0, .int .i64 0, .agg #[.int .i64 1, .string ⟨#[97]⟩, .int .i64 0, .slice none 0 0]] V (LeavesA V ab G7 aw3 (.int .i64 0)) := fun V b => by
    have K := mappend_any (S10.at_.below b) ty_wf (base := 0) (count := 0) (by decide) (rec_in18 V)
    rw [show (⟨awR, Value.slice none 0 0⟩ : RcV).r = awR from rfl, aw_a.1, show apS aw2 tyG 0 0 awR = aw3 from rfl] at K
    exact K
  have BD : Below u10.heap.size u10 u10.drew := (Below.refl _ _).drew
  have RB := hidI (fun V (b : Below u10.heap.size u10 V) => R10.below b)
  have RC := hidI (fun V (b : Below u10.heap.size u10 V) => (R10.below b).cells)
  have sD := RC.out _ BD
  go_cut [10] from 40 to 43 (fun s10 wx => s10 = .int .i64 0 ∧ ∃ V G, Below u10.heap.size u10 V ∧ ArAt wx ab G aw3 ∧ Grew G7 V G wx)
  case first =>
    refine wp_region_held_drew (S := fun wx => wx.cell? ⟨rb, 0, none⟩ = some (.int .i64 1) ∧ wx.cell? ⟨rb, 1, none⟩ = some (.string ⟨#[97]⟩) ∧ wx.cell? ⟨rb, 2, none⟩ = some (.int .i64 0) ∧ wx.cell? ⟨rb, 3, none⟩ = some (.slice none 0 0)) (by kernel_rfl) sD (fun hHeld => ?_)
    refine tkH 0 ?_
    refine tkH 2 ?_
    refine rnH 1 (fun K' hK => ?_)
    go_simp
    go_at_call 32
    refine mtiny_any.mono ?_
    rintro _ v1 ⟨rfl, bt⟩
    dsimp only
    have BV : Below u10.heap.size u10 v1 := BD.step16 bt BD.size
    refine koH hK (RC.out _ BV) fun hHeld => ?_
    clear hK K'
    refine rnH 3 (fun K' hK => ?_)
    go_simp
    go_at_call 28
    refine (KAP _ BV).mono ?_
    rintro _ v2 ⟨rfl, Gx, Ax, gx⟩
    dsimp only
    refine koH hK ((RB.out _ BV).grew gx).cells fun hHeld => ?_
    clear hK K'
    have REL := hidI (⟨v1, Gx, BV, Ax, gx⟩ : ∃ V G, Below u10.heap.size u10 V ∧ ArAt v2 ab G aw3 ∧ Grew G7 V G v2)
    refine tkH 4 ?_
    refine wpAnyH_done (by kernel_rfl) ?_ _
    go_wp2
    go_meet
    case rel => exact ⟨rfl, REL.out⟩
  case rest =>
    obtain ⟨rfl, V, G8, bV, A8, g8⟩ := hcut
    have S11 := (S10.below bV).grew A8 g8
    have R11 := (RB.out _ bV).grew g8
    have T11 := (T10.below bV).grew g8
    have L11 := (L10.below bV).grew g8
    have C11 := (C10.step16 bV C10.size).trans ((S10.below bV).bel g8)
    clear S10 RB RC T10 L10 C10 bV A8 g8 KAP BD sD R10
    go_wp2_with fail
    refine mtiny_any.mono ?_
    rintro _ u12 ⟨rfl, b12⟩
    have S12 := S11.below b12
    have R12 := R11.below b12
    have T12 := T11.below b12
    have L12 := L11.below b12
    have C12 := C11.step16 b12 C11.size
    clear S11 R11 T11 L11 C11 b12
    have K := mreplay_any S12.at_ ty_wf T12.rd (base := 0)
    rw [HF.out.2.2.1, HF.out.2.2.2] at K
    go_wp2_with fail
    refine K.mono ?_
    rintro _ u13 ⟨rv, RL, rfl, ro, er, b13⟩
    have rl1 : RL.length = 1 := by
      have := congrArg List.length er
      simpa using this
    obtain ⟨ra, rc, erv⟩ := (ro.rd (by omega)).form
    rw [rl1] at erv
    subst erv
    have S13 := S12.below b13
    have R13 := R12.below b13
    have L13 := L12.below b13
    have C13 := C12.step16 b13 C12.size
    clear K S12 R12 T12 L12 C12 ro er b13 rl1
    have KAP : ∀ V, Below u13.heap.size u13 V → Calls Tryz.prog 28 #[.pointer (some ⟨ab, 0, none⟩), aggG tyG, .int .i64 0, .int .i64 2, .agg #[.int .i64 1, .string ⟨#[97]⟩, .int .i64 0, .slice none 0 0]] V (LeavesA V ab G8 (apS aw3 tyG 0 2 awR) (.int .i64 180)) := fun V b => by
      have K := mappend_any (S13.at_.below b) ty_wf (base := 0) (count := 2) (by decide) (rec_in18 V)
      rw [show (⟨awR, Value.slice none 0 0⟩ : RcV).r = awR from rfl, aw_f] at K
      exact K
    have BD : Below u13.heap.size u13 u13.drew := (Below.refl _ _).drew
    have RB := hidI (fun V (b : Below u13.heap.size u13 V) => R13.below b)
    have RC := hidI (fun V (b : Below u13.heap.size u13 V) => (R13.below b).cells)
    have sD := RC.out _ BD
    go_upto_region 11 with fail
    go_cut [13] from 51 to 54 (fun s13 wx => s13 = .int .i64 180 ∧ ∃ V G, Below u13.heap.size u13 V ∧ ArAt wx ab G (apS aw3 tyG 0 2 awR) ∧ Grew G8 V G wx)
    case first =>
      refine wp_region_held_drew (S := fun wx => wx.cell? ⟨rb, 0, none⟩ = some (.int .i64 1) ∧ wx.cell? ⟨rb, 1, none⟩ = some (.string ⟨#[97]⟩) ∧ wx.cell? ⟨rb, 2, none⟩ = some (.int .i64 0) ∧ wx.cell? ⟨rb, 3, none⟩ = some (.slice none 0 0)) (by kernel_rfl) sD (fun hHeld => ?_)
      refine tkH 0 ?_
      refine tkH 2 ?_
      refine rnH 1 (fun K' hK => ?_)
      go_simp
      go_at_call 32
      refine mtiny_any.mono ?_
      rintro _ v1 ⟨rfl, bt⟩
      dsimp only
      have BV : Below u13.heap.size u13 v1 := BD.step16 bt BD.size
      refine koH hK (RC.out _ BV) fun hHeld => ?_
      clear hK K'
      refine rnH 3 (fun K' hK => ?_)
      go_simp
      go_at_call 28
      refine (KAP _ BV).mono ?_
      rintro _ v2 ⟨rfl, Gx, Ax, gx⟩
      dsimp only
      refine koH hK ((RB.out _ BV).grew gx).cells fun hHeld => ?_
      clear hK K'
      have REL := hidI (⟨v1, Gx, BV, Ax, gx⟩ : ∃ V G, Below u13.heap.size u13 V ∧ ArAt v2 ab G (apS aw3 tyG 0 2 awR) ∧ Grew G8 V G v2)
      refine tkH 4 ?_
      refine wpAnyH_done (by kernel_rfl) ?_ _
      go_wp2
      go_meet
      case rel => exact ⟨rfl, REL.out⟩
    case rest =>
      obtain ⟨rfl, V, G9, bV, A9, g9⟩ := hcut
      have L14 := (L13.below bV).grew g9
      have C14 : Hid (Below w.heap.size w wc) := (C13.step16 bV C13.size).trans ((S13.below bV).bel g9)
      have l1 := L14.at_
      clear S13 RB RC L13 C13 bV A9 g9 KAP BD sD R13 L14
      go_wp2
      go_ret
      exact ⟨rfl, C14.out⟩
end Go.Proofs.YtclieefpnbdbjaaGreat.Gf

namespace Go.Proofs.YtclieefpnbdbjaaGreat.Gf
set_option linter.unusedVariables false
set_option linter.unusedSimpArgs false
open Go.RowKit
theorem hidJ {p : Prop} (h : p) : Hid p := h
/-- a slice of numbers that came in: each fits its kind -/
theorem rdI_row_wf {w : World} {a : Option Addr} {len cap : Nat} {zs : List Int}
    (h : (a = none ∧ len = 0 ∧ cap = 0 ∧ zs = []) ∨ ∃ x, a = some x ∧ len ≤ cap ∧ cap ≤ maxLen ∧ zs.length = cap ∧ (∀ i, i < zs.length → w.cell? (x.add i) = some (.int .i64 (zs.getD i 0))) ∧ ∀ n ∈ zs, (Lit.int .i64 n).wf = true) :
    ∃ p : List Int, len = p.length ∧ RdI w (.slice a len cap) p ∧ ∀ i, i < p.length → (Lit.int .i64 (p.getD i 0)).wf = true := by
  obtain ⟨p, hp, hr⟩ := rdI_row h
  refine ⟨p, hp, hr, fun i hi => ?_⟩
  obtain ⟨b, off, ea, _, c⟩ := hr.at hi
  rcases h with ⟨rfl, _⟩ | ⟨x, rfl, hl, hm, hz, hcell, hwz⟩
  · cases ea
  · have e := hcell i (by omega)
    simp at ea
    subst ea
    rw [show (⟨b, off, none⟩ : Addr).add i = ⟨b, off + i, none⟩ by simp [Addr.add], c] at e
    simp at e
    rw [List.getD_eq_getElem?_getD, e]
    rw [← List.getD_eq_getElem?_getD, show zs.getD i 0 = zs[i]'(by omega) by simp [List.getD, show i < zs.length by omega]]
    exact hwz _ (List.getElem_mem _)
theorem co_calm {a : ArS} {i ad at_ : Int} {y : UInt8} (h : Calm a) : Calm (coAS a i ad at_ y) ∧ (coAS a i ad at_ y).D.length = a.D.length := by
  unfold coAS
  split
  · exact ⟨h, setA_len _⟩
  · exact ⟨h, rfl⟩
theorem ck_calm {a : ArS} {l : List Int} (h : Calm a) : ∀ r, Calm (ckA a l r) ∧ (ckA a l r).D.length = a.D.length
  | 0 => ⟨h, rfl⟩
  | r + 1 => by
    obtain ⟨h1, h2⟩ := ck_calm h r (l := l)
    unfold ckA
    split
    · exact ⟨h1, h2⟩
    · obtain ⟨h3, h4⟩ := co_calm h1 (i := l.getD r 0) (ad := 0) (at_ := (r : Int)) (y := 1)
      exact ⟨h3, h4.trans h2⟩
theorem knows_calm {m : Nat} (hm : 1 ≤ m) (hm2 : m ≤ 32) {lb fa re hu : List Int} : Calm (ckA (rkA (fkA (lbS (newA m 4) lb) fa fa.length) re re.length) hu hu.length) ∧ (ckA (rkA (fkA (lbS (newA m 4) lb) fa fa.length) re re.length) hu hu.length).D.length = m := by
  obtain ⟨_, c1, l1, _⟩ := lb_end (calm_new m 4) (l := lb)
  obtain ⟨c2, l2, _⟩ := fk_at (l := fa) c1 fa.length (Nat.le_refl _)
  obtain ⟨c3, l3, _⟩ := rk_at (l := re) c2 re.length (Nat.le_refl _)
  obtain ⟨c4, l4⟩ := ck_calm (l := hu) c3 hu.length
  refine ⟨c4, ?_⟩
  rw [l4, l3, l2, l1]
  simp [newA]
theorem row_cap {w : World} {a : Option Addr} {len cap : Nat} {zs : List Int}
    (h : (a = none ∧ len = 0 ∧ cap = 0 ∧ zs = []) ∨ ∃ x, a = some x ∧ len ≤ cap ∧ cap ≤ maxLen ∧ zs.length = cap ∧ (∀ i, i < zs.length → w.cell? (x.add i) = some (.int .i64 (zs.getD i 0))) ∧ ∀ n ∈ zs, (Lit.int .i64 n).wf = true) : len ≤ cap := by
  rcases h with ⟨_, rfl, rfl, _⟩ | ⟨_, _, hl, _⟩
  · exact Nat.le_refl _
  · exact hl
theorem RdI.hi18 {w : World} {b off c : Nat} {l : List Int} (h : RdI w (.slice (some ⟨b, off, none⟩) l.length c) l) {r : Nat} (hr : r ≤ l.length) : RdI w (.slice (some ⟨b, off, none⟩) r c) (l.take r) := by
  have hl : (l.take r).length = r := by rw [List.length_take]; omega
  by_cases h0 : r = 0
  · subst h0; exact Or.inl ⟨_, c, by simp, rfl⟩
  · rcases h with ⟨_, _, e, _⟩ | ⟨b', off', cap', h1, h2, h3, h5, h6⟩
    · subst e; simp at hr; omega
    · simp at h2
      obtain ⟨⟨rfl, rfl⟩, rfl⟩ := h2
      refine Or.inr ⟨b, off, c, fun k => by rw [k] at hl; simp at hl; omega, by rw [hl], by rw [hl]; omega, h5, fun i hi => ?_⟩
      rw [hl] at hi
      have e : (l.take r).getD i 0 = l.getD i 0 := by simp [List.getD, List.getElem?_take, hi]
      rw [e]
      exact h6 i (by omega)
theorem mamong_any {w : World} {v : Value} {l : List Int} (h : RdI w v l) (hl : l.length ≤ 1000000) (x : Int) : Calls Tryz.prog 30 #[v, .int .i64 x] w fun e w' => e = .returned (.bool (decide (x ∈ l))) ∧ w' = w := by
  obtain ⟨va, vc, rfl⟩ := h.form
  have H : Hid (RdI w (.slice va l.length vc) l) := h
  have HM : Hid (∀ r, r < l.length → ¬ x ∈ l.take r → l.getD r 0 = x → x ∈ l) := fun r hr _ e => by
    rw [← e, show l.getD r 0 = l[r] by simp [List.getD, hr]]
    exact List.getElem_mem hr
  have HN : Hid (∀ r, r < l.length → ¬ x ∈ l.take r → ¬ l.getD r 0 = x → ¬ x ∈ l.take (r + 1)) := fun r hr n e k => (mem_take_succ hr).1 k |>.elim n e
  clear h
  go_enter Tryz.func30, Tryz.ntmps30
  go_wp2_with fail
  go_loopw [5] (fun i wr => ∃ r : Nat, r ≤ l.length ∧ i = .int .i64 (r : Int) ∧ wr = w ∧ Hid (¬ x ∈ l.take r)) (fun i _ => l.length - (intOf i).toNat)
  case atStart => exact ⟨0, Nat.zero_le _, rfl, rfl, by show ¬ x ∈ l.take 0; simp⟩
  case round =>
    obtain ⟨r, hr, rfl, rfl, hn⟩ := hrel
    by_cases hlt : r < l.length
    · have hlt' : (r : Int) < (l.length : Int) := by omega
      obtain ⟨b, off, rfl, hb, c0⟩ := H.out.at hlt
      have M := hidJ (HM.out r hlt hn.out)
      have N := hidJ (HN.out r hlt hn.out)
      obtain ⟨y, hy⟩ : ∃ y, Hid (l.getD r 0 = y) := ⟨_, rfl⟩
      rw [hy.out] at c0 M N
      clear hy
      by_cases e : y = x
      · have e1 : (y == x) = true := beq_iff_eq.2 e
        have T := hidJ (decide_eq_true (M.out e))
        rw [e] at c0
        clear HM HN M N hn H e1
        go_wp2
        exact bodyPost_ret (v := .bool true) (by simp [results, Tryz.results30, go_sem]) rfl ⟨by rw [T.out], rfl⟩
      · have e1 : (y == x) = false := beq_eq_false_iff_ne.2 e
        have N2 := hidJ (N.out e)
        clear HM HN M N hn
        go_wp2
        go_roundw
        case rel => exact ⟨r + 1, by omega, by go_num, trivial, N2⟩
        case measure => simp [intOf]; omega
    · have hge : ¬ (r : Int) < (l.length : Int) := by omega
      obtain rfl : r = l.length := by omega
      have T : Hid (decide (x ∈ l) = false) := by
        have n := hn.out
        rw [List.take_length] at n
        exact decide_eq_false n
      clear HM HN hn H
      go_wp2
      exact bodyPost_ret (v := .bool false) (by simp [results, Tryz.results30, go_sem]) rfl ⟨by rw [T.out], rfl⟩
end Go.Proofs.YtclieefpnbdbjaaGreat.Gf
