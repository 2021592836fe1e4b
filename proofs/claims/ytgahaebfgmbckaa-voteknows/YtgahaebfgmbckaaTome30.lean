/- TEXTS JOINED: VoSame. -/
import Derived.Test.YtgahaebfgmbckaaTome17
namespace Go.Proofs.Ytgahaebfgmbckaa.Gf
set_option linter.unusedVariables false
set_option linter.unusedSimpArgs false
open Go.RowKit
def SaysV (p : Prop) (w : World) (e : Ending) (w' : World) : Prop := ∃ x : Bool, e = .returned (.bool x) ∧ (x = true ↔ p) ∧ Below w.heap.size w w'
theorem SaysV.no {p : Prop} (h : ¬ p) {w w' : World} {x : Bool} (e : x = false) (b : Below w.heap.size w w') : SaysV p w (.returned (.bool x)) w' := ⟨x, rfl, ⟨fun q => (by rw [e] at q; cases q), fun q => absurd q h⟩, b⟩
theorem SaysV.yes {p : Prop} (h : p) {w w' : World} {x : Bool} (e : x = true) (b : Below w.heap.size w w') : SaysV p w (.returned (.bool x)) w' := ⟨x, rfl, ⟨fun _ => h, fun _ => e⟩, b⟩
theorem sv_no {p : Prop} (h : p := by
  clear EQ
  go_wp2
  go_ret
  exact SaysV.no N.out rfl FIN.out) : p := h
set_option maxRecDepth 100000 in
set_option maxHeartbeats 2000000 in
theorem rsame17_any {w : World} {V U : VoS} {vd ud : Value} (h : Rd w vd V.da) (k : Rd w ud U.da) : Calls Try.prog 21 #[aggV V vd, aggV U ud] w (SaysV (V = U) w) := by
  obtain ⟨vh, ve, vda, vco, vw⟩ := V
  obtain ⟨uh, ue, uda, uco, uw⟩ := U
  simp only at h k
  obtain ⟨w2, hw2⟩ : ∃ w2, w2 = (w.alloc (.cells #[.bool vh, .int .i64 ve, vd, .int .i64 ((vco : Nat) : Int), .bool vw] 34)).alloc (.cells #[.bool uh, .int .i64 ue, ud, .int .i64 ((uco : Nat) : Int), .bool uw] 34) := ⟨_, rfl⟩
  have B2 : Below w.heap.size w w2 := by rw [hw2]; exact (belR _ _).step16 (belR _ _) (belR _ _).size
  have EQ : Hid ((⟨vh, ve, vda, vco, vw⟩ : VoS) = ⟨uh, ue, uda, uco, uw⟩ ↔ (vda = uda ∧ vh = uh ∧ ve = ue ∧ vco = uco ∧ vw = uw)) := by
    show _ ↔ _
    rw [VoS.mk.injEq]
    exact ⟨fun ⟨a, b, c, d, e⟩ => ⟨c, a, b, d, e⟩, fun ⟨c, a, b, d, e⟩ => ⟨a, b, c, d, e⟩⟩
  have KS := same_b (h.below B2) (k.below B2)
  rw [hw2] at KS B2
  obtain ⟨va, vc, ev⟩ := h.form
  subst ev
  obtain ⟨ua, uc, eu⟩ := k.form
  subst eu
  obtain ⟨sb, hsb⟩ : ∃ sb, Hid (sb = sameB vda uda) := ⟨_, rfl⟩
  rw [← hsb.out] at KS
  have SB : Hid (sb = true ↔ vda = uda) := by show _ ↔ _; rw [hsb.out]; unfold sameB; exact decide_eq_true_iff
  show Calls Try.prog 21 #[.agg #[.bool vh, .int .i64 ve, .slice va vda.length vc, .int .i64 ((vco : Nat) : Int), .bool vw], .agg #[.bool uh, .int .i64 ue, .slice ua uda.length uc, .int .i64 ((uco : Nat) : Int), .bool uw]] w _
  generalize ((⟨vh, ve, vda, vco, vw⟩ : VoS) = ⟨uh, ue, uda, uco, uw⟩) = PP at EQ ⊢
  clear h k hw2 hsb
  go_enter Try.func21, Try.ntmps21
  go_wp2_with fail
  refine KS.mono ?_
  rintro _ w3 ⟨rfl, B3⟩
  clear KS
  have FIN : Hid (Below w.heap.size w w3) := B2.step16 B3 B2.size
  have e1 : w.heap.size < (w.alloc (.cells #[.bool vh, .int .i64 ve, .slice va vda.length vc, .int .i64 ((vco : Nat) : Int), .bool vw] 34)).heap.size := by simp
  have CV : ∀ j, w3.cell? ⟨w.heap.size, j, none⟩ = #[Value.bool vh, .int .i64 ve, .slice va vda.length vc, .int .i64 ((vco : Nat) : Int), .bool vw][j]? := fun j => by
    rw [B3.cell (p := ⟨w.heap.size, j, none⟩) (by simp; omega), World.cell?_alloc_lt _ _ _ (by simp), World.cell?_alloc_new]
  have CU : ∀ j, w3.cell? ⟨w.heap.size + 1, j, none⟩ = #[Value.bool uh, .int .i64 ue, .slice ua uda.length uc, .int .i64 ((uco : Nat) : Int), .bool uw][j]? := fun j => by
    rw [B3.cell (p := ⟨w.heap.size + 1, j, none⟩) (by simp), show w.heap.size + 1 = (w.alloc (.cells #[.bool vh, .int .i64 ve, .slice va vda.length vc, .int .i64 ((vco : Nat) : Int), .bool vw] 34)).heap.size by simp, World.cell?_alloc_new]
  have v0 := CV 0
  have v1 := CV 1
  have v3 := CV 3
  have v4 := CV 4
  have u0 := CU 0
  have u1 := CU 1
  have u3 := CU 3
  have u4 := CU 4
  simp at v0 v1 v3 v4 u0 u1 u3 u4
  clear CV CU B2 B3 e1
  cases sb with
  | false =>
    have N : Hid (¬ PP) := fun q => by have := SB.out.2 (EQ.out.1 q).1; cases this
    exact sv_no
  | true =>
    have qd := SB.out.1 rfl
    by_cases q1 : vh = uh
    rotate_left
    · have N : Hid (¬ PP) := fun q => q1 (EQ.out.1 q).2.1
      have q1' : (vh == uh) = false := beq_eq_false_iff_ne.2 q1
      clear qd
      exact sv_no
    by_cases q2 : ve = ue
    rotate_left
    · have N : Hid (¬ PP) := fun q => q2 (EQ.out.1 q).2.2.1
      have q2' : (ve == ue) = false := beq_eq_false_iff_ne.2 q2
      have q1' : (vh == uh) = true := beq_iff_eq.2 q1
      clear qd
      exact sv_no
    by_cases q3 : vco = uco
    rotate_left
    · have N : Hid (¬ PP) := fun q => q3 (EQ.out.1 q).2.2.2.1
      have q3' : ((vco : Int) == (uco : Int)) = false := beq_eq_false_iff_ne.2 (by omega)
      have q1' : (vh == uh) = true := beq_iff_eq.2 q1
      have q2' : (ve == ue) = true := beq_iff_eq.2 q2
      clear qd
      exact sv_no
    by_cases q4 : vw = uw
    rotate_left
    · have N : Hid (¬ PP) := fun q => q4 (EQ.out.1 q).2.2.2.2
      have q4' : (vw == uw) = false := beq_eq_false_iff_ne.2 q4
      clear qd
      exact sv_no
    · have Y : Hid PP := EQ.out.2 ⟨qd, q1, q2, q3, q4⟩
      subst q1 q2 q3 q4
      clear EQ qd
      go_wp2
      go_ret
      exact SaysV.yes Y.out (by simp) FIN.out
end Go.Proofs.Ytgahaebfgmbckaa.Gf
