/- TEXTS JOINED: VoAw. -/
import Derived.Test.YtgahaebfgmbckaaTome24
import Derived.Test.YtgahaebfgmbckaaTome15
namespace Go.Proofs.Ytgahaebfgmbckaa.Gf
set_option linter.unusedVariables false
set_option linter.unusedSimpArgs false
open Go.RowKit
/-- a vote that was told, apart from an array's blocks -/
structure ToldV (w : World) (G : Nat → Prop) (b : Nat) (V : VoS) (vd : Value) : Prop where
  c0 : w.cell? ⟨b, 0, none⟩ = some (.bool V.has)
  c1 : w.cell? ⟨b, 1, none⟩ = some (.int .i64 V.ep)
  c2 : w.cell? ⟨b, 2, none⟩ = some vd
  c3 : w.cell? ⟨b, 3, none⟩ = some (.int .i64 ((V.co : Nat) : Int))
  c4 : w.cell? ⟨b, 4, none⟩ = some (.bool V.wi)
  lt : b < w.heap.size
  ap : ¬ G b
  rd : Told w G vd V.da
section
variable {w w' : World} {G G' : Nat → Prop} {b : Nat} {V : VoS} {vd : Value}
theorem ToldV.grew (h : ToldV w G b V vd) (g : Grew G w G' w') : ToldV w' G' b V vd := by
  have e : ∀ j, w'.cell? ⟨b, j, none⟩ = w.cell? ⟨b, j, none⟩ := fun j => g.turn.cell (p := ⟨b, j, none⟩) h.lt h.ap
  exact ⟨(e _).trans h.c0, (e _).trans h.c1, (e _).trans h.c2, (e _).trans h.c3, (e _).trans h.c4, Nat.lt_of_lt_of_le h.lt g.turn.size, g.off h.lt h.ap, h.rd.grew g⟩
theorem ToldV.below (h : ToldV w G b V vd) (hb : Below w.heap.size w w') : ToldV w' G b V vd := by
  have e : ∀ j, w'.cell? ⟨b, j, none⟩ = w.cell? ⟨b, j, none⟩ := fun j => hb.cell (p := ⟨b, j, none⟩) h.lt
  exact ⟨(e _).trans h.c0, (e _).trans h.c1, (e _).trans h.c2, (e _).trans h.c3, (e _).trans h.c4, Nat.lt_of_lt_of_le h.lt hb.size, h.ap, h.rd.below hb⟩
theorem ToldV.laid {w0 : World} {ab : Nat} {a : ArS} (h : ArAt w0 ab G a) (hr : Rd w vd V.da) (hf : FarV w0 vd) (hb : Below w0.heap.size w0 w) (e : Nat) (hbb : b = w.heap.size) : ToldV (w.alloc (.cells #[.bool V.has, .int .i64 V.ep, vd, .int .i64 ((V.co : Nat) : Int), .bool V.wi] e)) G b V vd := by
  subst hbb
  have c : ∀ j, (w.alloc (.cells #[.bool V.has, .int .i64 V.ep, vd, .int .i64 ((V.co : Nat) : Int), .bool V.wi] e)).cell? ⟨w.heap.size, j, none⟩ = #[Value.bool V.has, .int .i64 V.ep, vd, .int .i64 ((V.co : Nat) : Int), .bool V.wi][j]? := fun j => World.cell?_alloc_new _ _ _ _
  exact ⟨c 0, c 1, c 2, c 3, c 4, by simp, fun k => by have := h.lt _ k; have := hb.size; omega, hr.below (belR _ _), hf.apart h.lt⟩
end
theorem vread_is {w : World} {ab : Nat} {GA : Nat → Prop} {a : ArS} (h : ArAt w ab GA a) {ad : Int} (ha : (Lit.int .i64 ad).wf = true) {u : Value} {K : List Bool} (hk : RdB w u K) {x : Int} (hx : rvX a = x) {V : VoS} (hv : rvV a K ad = V) :
    Calls Try.prog 14 #[.pointer (some ⟨ab, 0, none⟩), u, .int .i64 ad] w (TellsVF w x V) := by
  rw [← hx, ← hv]; exact vread17_any h ha hk
set_option maxRecDepth 100000 in
set_option maxHeartbeats 4000000 in
theorem awake17_any {w : World} : Calls Try.prog 8 #[] w fun e w' => e = .returned (.bool true) ∧ Below w.heap.size w w' := by
  go_enter Try.func8, Try.ntmps8
  go_wp2_with fail
  refine (anew_is (n := 3) (s := 4) (m := 3) (k := 4) rfl (by decide) (by decide) (by decide) (by decide) rfl).mono ?_
  rintro _ u1 ⟨ab, G1, rfl, A1, H1, B1⟩
  have S1 : ArB u1 w.heap.size ab G1 (newA 3 4) := ⟨A1, H1, B1.size⟩
  have C1 : Below w.heap.size w u1 := B1
  clear A1 H1 B1
  have S2 := S1.below (belR u1 (.cells #[.int .u8 7] 5))
  have C2 := C1.step16 (belR u1 (.cells #[.int .u8 7] 5)) C1.size
  have K := vwrite17_any S2.at_ (ad := 1) (ep := 5) (by decide) (p := [7]) (rd_lit [7] rfl rfl (by decide)) (by decide)
  rw [vw_1.1, vw_1.2.1] at K
  clear S1 C1
  go_wp2_with fail
  refine K.mono ?_
  rintro _ u3 ⟨rfl, G3, A3, g3⟩
  have S3 : ArB u3 w.heap.size ab G3 vw1 := S2.grew A3 g3
  have C3 := C2.trans (S2.bel g3)
  clear K S2 C2 A3 g3
  have S4 := S3.below (belR u3 (.cells #[.bool true] 4))
  have C4 := C3.step16 (belR u3 (.cells #[.bool true] 4)) C3.size
  have K := vread_is S4.at_ (ad := 1) (by decide) (rdB_lit (w := u3) (e := 4) [true] rfl rfl rfl (by decide)) vw_r1.1 vw_r1.2
  clear S3 C3
  go_wp2_with fail
  refine K.mono ?_
  rintro _ u5 ⟨vd, rfl, R5, F5, b5⟩
  obtain ⟨va, vc, ev⟩ := R5.form
  subst ev
  have T6 : ToldV (u5.alloc (.cells #[.bool true, .int .i64 5, .slice va 1 vc, .int .i64 3, .bool true] 34)) G3 u5.heap.size ⟨true, 5, [7], 3, true⟩ (.slice va 1 vc) := ToldV.laid S4.at_ (V := ⟨true, 5, [7], 3, true⟩) R5 F5 b5 34 rfl
  have S6 := (S4.below b5).below (belR u5 (.cells #[.bool true, .int .i64 5, .slice va 1 vc, .int .i64 3, .bool true] 34))
  have C6 := (C4.step16 b5 C4.size).step16 (belR u5 (.cells #[.bool true, .int .i64 5, .slice va 1 vc, .int .i64 3, .bool true] 34)) (C4.step16 b5 C4.size).size
  rw [show aggV ⟨true, 5, [7], 3, true⟩ (.slice va ([7] : List UInt8).length vc) = .agg #[.bool true, .int .i64 5, .slice va 1 vc, .int .i64 3, .bool true] from rfl]
  clear K S4 C4 R5 F5 b5
  have K := arepl_any S6.at_ (i := 0) (by decide)
  go_wp2_with fail
  refine K.mono ?_
  rintro _ u7 ⟨rfl, G7, A7, g7⟩
  have S7 : ArB u7 w.heap.size ab G7 vw2 := S6.grew A7 g7
  have T7 := T6.grew g7
  have C7 := C6.trans (S6.bel g7)
  obtain ⟨b5, hb5⟩ : ∃ b5, b5 = u5.heap.size := ⟨_, rfl⟩
  rw [← hb5] at T7 ⊢
  clear K S6 C6 T6 A7 g7 hb5
  have K := vread_is S7.at_ (ad := 1) (by decide) rdB_none vw_r2.1 vw_r2.2
  go_wp2_with fail
  refine K.mono ?_
  rintro _ u8 ⟨vd, rfl, R8, F8, b8⟩
  obtain ⟨wa, wc, ew⟩ := R8.form
  subst ew
  have T9 : ToldV (u8.alloc (.cells #[.bool true, .int .i64 5, .slice wa 1 wc, .int .i64 2, .bool false] 34)) G7 u8.heap.size ⟨true, 5, [7], 2, false⟩ (.slice wa 1 wc) := ToldV.laid S7.at_ (V := ⟨true, 5, [7], 2, false⟩) R8 F8 b8 34 rfl
  have q9 := belR u8 (.cells #[.bool true, .int .i64 5, .slice wa 1 wc, .int .i64 2, .bool false] 34)
  have S9 := (S7.below b8).below q9
  have U9 := (T7.below b8).below q9
  have C9 := (C7.step16 b8 C7.size).step16 q9 (C7.step16 b8 C7.size).size
  rw [show aggV ⟨true, 5, [7], 2, false⟩ (.slice wa ([7] : List UInt8).length wc) = .agg #[.bool true, .int .i64 5, .slice wa 1 wc, .int .i64 2, .bool false] from rfl]
  clear K S7 T7 C7 R8 F8 b8 q9
  have K := vmend17_any S9.at_ (ad := 1) (by decide) rdB_none
  rw [vw_m.1, vw_m.2.1] at K
  go_wp2_with fail
  refine K.mono ?_
  rintro _ u10 ⟨rfl, G10, A10, g10⟩
  have S10 : ArB u10 w.heap.size ab G10 vw3 := S9.grew A10 g10
  have T10 := U9.grew g10
  have V10 := T9.grew g10
  have C10 := C9.trans (S9.bel g10)
  obtain ⟨b8, hb8⟩ : ∃ b8, b8 = u8.heap.size := ⟨_, rfl⟩
  rw [← hb8] at V10 ⊢
  clear K S9 U9 T9 C9 A10 g10 hb8
  have K := vread_is S10.at_ (ad := 2) (by decide) rdB_none vw_r3.1 vw_r3.2
  go_wp2_with fail
  refine K.mono ?_
  rintro _ u11 ⟨vd, rfl, R11, F11, b11⟩
  obtain ⟨xa, xc, ex⟩ := R11.form
  subst ex
  have q12 := belR u11 (.cells #[.bool false, .int .i64 0, .slice xa 0 xc, .int .i64 0, .bool false] 34)
  have T12 := (T10.below b11).below q12
  have V12 := (V10.below b11).below q12
  have C12 := (C10.step16 b11 C10.size).step16 q12 (C10.step16 b11 C10.size).size
  rw [show aggV ⟨false, 0, [], 0, false⟩ (.slice xa ([] : List UInt8).length xc) = .agg #[.bool false, .int .i64 0, .slice xa 0 xc, .int .i64 0, .bool false] from rfl]
  have X12 : (u11.alloc (.cells #[.bool false, .int .i64 0, .slice xa 0 xc, .int .i64 0, .bool false] 34)).cell? ⟨u11.heap.size, 0, none⟩ = some (.bool false) := by rw [World.cell?_alloc_new]; rfl
  obtain ⟨bb, oo, cc, e7, c7⟩ := T12.rd.byte
  simp at e7
  obtain ⟨rfl, rfl⟩ := e7
  have v0 : (u11.alloc (.cells #[.bool false, .int .i64 0, .slice xa 0 xc, .int .i64 0, .bool false] 34)).cell? ⟨b5, 0, none⟩ = some (.bool true) := T12.c0
  have v1 : (u11.alloc (.cells #[.bool false, .int .i64 0, .slice xa 0 xc, .int .i64 0, .bool false] 34)).cell? ⟨b5, 1, none⟩ = some (.int .i64 5) := T12.c1
  have v2 := T12.c2
  have v3 : (u11.alloc (.cells #[.bool false, .int .i64 0, .slice xa 0 xc, .int .i64 0, .bool false] 34)).cell? ⟨b5, 3, none⟩ = some (.int .i64 3) := T12.c3
  have v4 : (u11.alloc (.cells #[.bool false, .int .i64 0, .slice xa 0 xc, .int .i64 0, .bool false] 34)).cell? ⟨b5, 4, none⟩ = some (.bool true) := T12.c4
  have y3 : (u11.alloc (.cells #[.bool false, .int .i64 0, .slice xa 0 xc, .int .i64 0, .bool false] 34)).cell? ⟨b8, 3, none⟩ = some (.int .i64 2) := V12.c3
  have y4 : (u11.alloc (.cells #[.bool false, .int .i64 0, .slice xa 0 xc, .int .i64 0, .bool false] 34)).cell? ⟨b8, 4, none⟩ = some (.bool false) := V12.c4
  have FIN : Hid (Below w.heap.size w (u11.alloc (.cells #[.bool false, .int .i64 0, .slice xa 0 xc, .int .i64 0, .bool false] 34))) := C12
  clear K T10 V10 C10 R11 F11 b11 q12 T12 V12 C12 S10
  go_wp2
  go_ret
  exact ⟨rfl, FIN.out⟩
end Go.Proofs.Ytgahaebfgmbckaa.Gf
