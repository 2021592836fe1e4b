/- TEXTS JOINED: ReCut, ReRk, ReCI, ReSn, ReCJ. -/
import Derived.Deep.OwnRows
import Derived.Test.YtclieefpnbdbjaaGreatRome21
namespace Go.Proofs.YtclieefpnbdbjaaGreat.Gf
set_option linter.unusedVariables false
set_option linter.unusedSimpArgs false
open Go.RowKit
theorem size_u816 (w : World) : (sizeOf 5).run Tryz.prog w = .ok 1 w := by
  obtain ⟨i0, hi, hz0, hz1, hz2⟩ := info_parts info_u8
  simp [sizeOf, typeInfo, hi, hz1, go_sem]
theorem elem_bytes16 : Tryz.prog.elem 42 = 5 := by kernel_rfl
theorem und_bytes16 : Tryz.prog.underlying 42 = some (.slice (Tryz.prog.elem 42)) := by kernel_rfl
theorem rd_cap {w : World} {a : Option Addr} {n c : Nat} {p : List UInt8} (h : Rd w (.slice a n c) p) : n = p.length ∧ n ≤ c := by
  rcases h with ⟨ao, cap, rfl, e, _, _⟩ | ⟨b, off, cap, h0, e, h1, h2, h3, h4⟩
  · simp at e
    obtain ⟨_, rfl, rfl⟩ := e
    exact ⟨rfl, Nat.zero_le _⟩
  · simp at e
    obtain ⟨_, rfl, rfl⟩ := e
    exact ⟨rfl, h1⟩
theorem Rd.first16 {w : World} {a : Option Addr} {n c k : Nat} {p : List UInt8} (h : Rd w (.slice a n c) p) (hk : k ≤ n) : Rd w (.slice a k c) (p.take k) := by
  rcases h with ⟨ao, cap, rfl, e, h1, h2⟩ | ⟨b, off, cap, h0, e, h1, h2, h3, h4⟩
  · simp at e
    obtain ⟨rfl, rfl, rfl⟩ := e
    obtain rfl : k = 0 := by omega
    exact Or.inl ⟨a, c, rfl, rfl, h1, h2⟩
  · simp at e
    obtain ⟨rfl, rfl, rfl⟩ := e
    by_cases hk0 : k = 0
    · subst hk0
      exact Or.inl ⟨_, c, rfl, rfl, h2, fun q => by cases q⟩
    · have hl : (p.take k).length = k := by rw [List.length_take]; omega
      refine Or.inr ⟨b, off, c, fun q => by rw [q] at hl; simp at hl; omega, by rw [hl], by rw [hl]; omega, h2, h3, fun i hi => ?_⟩
      rw [hl] at hi
      rw [h4 i (by omega)]
      have : co (p.take k) i = co p i := by unfold co; rw [List.getElem?_take_of_lt hi]
      rw [this]
theorem Rd.rest16 {w : World} {a : Option Addr} {n c k : Nat} {p : List UInt8} (h : Rd w (.slice a n c) p) (hk : k ≤ n) : Rd w (.slice (if c = k then a else a.map (·.add k)) (n - k) (c - k)) (p.drop k) := by
  rcases h with ⟨ao, cap, rfl, e, h1, h2⟩ | ⟨b, off, cap, h0, e, h1, h2, h3, h4⟩
  · simp at e
    obtain ⟨rfl, rfl, rfl⟩ := e
    obtain rfl : k = 0 := by omega
    refine Or.inl ⟨_, c, rfl, rfl, h1, fun q => ?_⟩
    split at q
    · exact h2 q
    · cases a with
      | none => exact h2 rfl
      | some x => cases q
  · simp at e
    obtain ⟨rfl, rfl, rfl⟩ := e
    by_cases hk0 : k = p.length
    · subst hk0
      refine Or.inl ⟨_, c - p.length, by simp, by rw [Nat.sub_self], by omega, fun q => ?_⟩
      split at q <;> cases q
    · have hl : (p.drop k).length = p.length - k := by rw [List.length_drop]
      refine Or.inr ⟨b, off + k, c - k, fun q => by rw [q] at hl; simp at hl; omega, ?_, by rw [hl]; omega, by omega, h3, fun i hi => ?_⟩
      · rw [if_neg (by omega), hl]
        show Value.slice (some ((⟨b, off, none⟩ : Addr).add k)) _ _ = _
        rw [add_at]
      · rw [hl] at hi
        rw [Nat.add_assoc, h4 (k + i) (by omega)]
        have : co (p.drop k) i = co p (k + i) := by unfold co; rw [List.getElem?_drop]
        rw [this]
theorem cut_hi16 (w : World) (a : Option Addr) {n c k : Nat} (h : k ≤ c) : (Instr.slice 42 (.slice a n c) none (some (.int .i64 (k : Int))) none).run Tryz.prog w = .ok (.slice a k c) w := by
  have e := run_slice_h (P := Tryz.prog) w 42 a n c und_bytes16 .i64 (k : Int) (by omega) (by omega)
  rw [e, elem_bytes16, size_u816]
  simp [sliced]
  intro _
  cases a with
  | none => rfl
  | some x => obtain ⟨b, o, s⟩ := x; cases s <;> simp [Addr.add]
theorem cut_lo16 (w : World) (a : Option Addr) {n c k : Nat} (h : k ≤ n) : (Instr.slice 42 (.slice a n c) (some (.int .i64 (k : Int))) none none).run Tryz.prog w = .ok (.slice (if c = k then a else a.map (·.add k)) (n - k) (c - k)) w := by
  have e := run_slice_l (P := Tryz.prog) w 42 a n c und_bytes16 .i64 (k : Int) (by omega) (by omega)
  rw [e, elem_bytes16, size_u816]
  simp [sliced]
theorem cut_hm16 (w : World) (a : Option Addr) {n c k : Nat} (h : k ≤ c) : (Instr.slice 42 (.slice a n c) none (some (.int .i64 (k : Int))) (some (.int .i64 (k : Int)))).run Tryz.prog w = .ok (.slice a k k) w := by
  have e := run_slice_hm (P := Tryz.prog) w 42 a n c und_bytes16 .i64 .i64 (k : Int) (k : Int) (by omega) (by omega) (by omega)
  rw [e, elem_bytes16, size_u816]
  simp [sliced]
  intro _
  cases a with
  | none => rfl
  | some x => obtain ⟨b, o, s⟩ := x; cases s <;> simp [Addr.add]
end Go.Proofs.YtclieefpnbdbjaaGreat.Gf

namespace Go.Proofs.YtclieefpnbdbjaaGreat.Gf
set_option linter.unusedVariables false
set_option linter.unusedSimpArgs false
open Go.RowKit
def FarN (N : Nat) (v : Value) : Prop := ∀ x n c, v = .slice (some x) n c → n = 0 ∨ N ≤ x.block
theorem FarN.first {N n c k c' : Nat} {a : Option Addr} (h : FarN N (.slice a n c)) (hk : k ≤ n) : FarN N (.slice a k c') := fun x m d e => by
  simp at e
  obtain ⟨rfl, rfl, rfl⟩ := e
  rcases h x n c rfl with q | q
  · exact Or.inl (by omega)
  · exact Or.inr q
theorem FarN.rest {N n c k c2 c' : Nat} {a : Option Addr} (h : FarN N (.slice a n c)) (hk : k ≤ n) : FarN N (.slice (if c2 = k then a else a.map (·.add k)) (n - k) c') := fun x m d e => by
  simp only [Value.slice.injEq] at e
  obtain ⟨e, rfl, rfl⟩ := e
  split at e
  · rcases h x n c (by rw [e]) with q | q
    · exact Or.inl (by omega)
    · exact Or.inr q
  · cases a with
    | none => cases e
    | some y =>
      simp at e
      subst e
      rcases h y n c rfl with q | q
      · exact Or.inl (by omega)
      · right
        have : (y.add k).block = y.block := by unfold Addr.add; first | rfl | (split <;> rfl)
        rw [this]; exact q
structure Rk (N : Nat) (w : World) (v : Value) (p : List UInt8) : Prop where
  rd : Rd w v p
  far : FarN N v
section
variable {N : Nat} {w w' : World} {v : Value} {p : List UInt8}
theorem Rk.form (h : Rk N w v p) : ∃ a c, v = .slice a p.length c := h.rd.form
theorem Rk.below (h : Rk N w v p) (b : Below w.heap.size w w') : Rk N w' v p := ⟨h.rd.below b, h.far⟩
theorem Rk.rest16 {a : Option Addr} {n c k : Nat} (h : Rk N w (.slice a n c) p) (hk : k ≤ n) : Rk N w (.slice (if c = k then a else a.map (·.add k)) (n - k) (c - k)) (p.drop k) := ⟨h.rd.rest16 hk, h.far.rest hk⟩
theorem Rk.turn {G : Nat → Prop} (h : Rk N w v p) (hG : ∀ k, G k → k < N) (t : TurnG G w w') : Rd w' v p := h.rd.turnG (fun x n c e => (h.far x n c e).imp id fun q hg => by have := hG _ hg; omega) t
theorem Rk.own {base e : Nat} {xs : List Value} (ho : w.ownsRow base e 1 v p.length xs) (hr : Rd w v p) (hb : N ≤ base) : Rk N w v p := ⟨hr, fun x n' c e2 => by
  obtain ⟨_, ⟨hv, hn⟩ | ⟨g, cap, cur, hv, hg, _⟩⟩ := ho
  · rw [hv] at e2; cases e2
  · rw [hv] at e2
    simp at e2
    obtain ⟨rfl, _⟩ := e2
    exact Or.inr (Nat.le_trans hb hg)⟩
end
/-- slices of slices in blocks from a number on -/
def KeepRs (N : Nat) (w : World) (u : Value) (L : List (List UInt8)) : Prop := ∃ (a : Option Addr) (cap : Nat), u = .slice a L.length cap ∧ L.length ≤ cap ∧ cap ≤ maxLen ∧ (a = none → cap = 0) ∧
  ∀ i, i < L.length → ∃ (b off : Nat) (x : Value), a = some ⟨b, off, none⟩ ∧ N ≤ b ∧ b < w.heap.size ∧ w.cell? ⟨b, off + i, none⟩ = some x ∧ Rk N w x (ro L i)
theorem KeepRs.below {N : Nat} {w W : World} {u : Value} {L : List (List UInt8)} (h : KeepRs N w u L) (hb : Below w.heap.size w W) : KeepRs N W u L := by
  obtain ⟨a, cap, h1, h2, h3, h4, h5⟩ := h
  refine ⟨a, cap, h1, h2, h3, h4, fun i hi => ?_⟩
  obtain ⟨b, off, x, k1, k0, k2, k3, k4⟩ := h5 i hi
  exact ⟨b, off, x, k1, k0, Nat.lt_of_lt_of_le k2 hb.size, (hb.cell (p := ⟨b, off + i, none⟩) k2).trans k3, k4.below hb⟩
theorem KeepRs.at {N : Nat} {w : World} {a : Option Addr} {n c : Nat} {L : List (List UInt8)} (h : KeepRs N w (.slice a n c) L) {i : Nat} (hi : i < L.length) : ∃ (b off : Nat) (x : Value), a = some ⟨b, off, none⟩ ∧ N ≤ b ∧ b < w.heap.size ∧ w.cell? ⟨b, off + i, none⟩ = some x ∧ Rk N w x (ro L i) := by
  obtain ⟨a', cap, h1, h2, h3, h4, h5⟩ := h
  simp at h1
  obtain ⟨rfl, _⟩ := h1
  exact h5 i hi
end Go.Proofs.YtclieefpnbdbjaaGreat.Gf

namespace Go.Proofs.YtclieefpnbdbjaaGreat.Gf
set_option linter.unusedVariables false
set_option linter.unusedSimpArgs false
open Go.RowKit
theorem Rd.firstK {w : World} {a : Option Addr} {n c k : Nat} {p : List UInt8} (h : Rd w (.slice a n c) p) (hk : k ≤ n) : Rd w (.slice a k k) (p.take k) := by
  have hc := rd_cap h
  rcases h.first16 hk with ⟨ao, cap, h0, e, h1, h2⟩ | ⟨b, off, cap, h0, e, h1, h2, h3, h4⟩
  · simp at e
    obtain ⟨rfl, rfl, rfl⟩ := e
    exact Or.inl ⟨_, _, h0, rfl, Nat.zero_le _, fun _ => rfl⟩
  · simp at e
    obtain ⟨rfl, e2, rfl⟩ := e
    have hl : (p.take k).length = k := by rw [List.length_take]; omega
    exact Or.inr ⟨b, off, k, h0, by rw [hl], by omega, by omega, h3, h4⟩
theorem Rk.firstK {N : Nat} {w : World} {a : Option Addr} {n c k : Nat} {p : List UInt8} (h : Rk N w (.slice a n c) p) (hk : k ≤ n) : Rk N w (.slice a k k) (p.take k) := ⟨h.rd.firstK hk, h.far.first hk⟩
theorem info_bytes16 : (Tryz.prog.info? 42).map (fun i => (i.zero, i.size, i.bytes)) = some (some (.slice none 0 0), 1, 24) := by kernel_rfl
/-- what 'cut' has laid so far -/
structure Cut16 (N : Nat) (w : World) (p : List UInt8) (g : Nat) (wr : World) (r : Nat) : Prop where
  x0 : ∃ x, wr.cell? ⟨g, 0, none⟩ = some x ∧ (1 ≤ r → Rk N w x (p.take 4096))
  x1 : ∃ x, wr.cell? ⟨g, 1, none⟩ = some x ∧ (2 ≤ r → Rk N w x (p.drop 4096))
  f0 : wr.frozen? ⟨g, 0, none⟩ = false
  f1 : wr.frozen? ⟨g, 1, none⟩ = false
  bl : Below w.heap.size w wr
  lg : w.heap.size ≤ g
theorem Cut16.put0 {N : Nat} {w : World} {p : List UInt8} {g : Nat} {wr : World} (h : Cut16 N w p g wr 0) {u : Value} (hu : Rk N w u (p.take 4096)) : Cut16 N w p g (wr.setCell ⟨g, 0, none⟩ u).drew 1 := by
  obtain ⟨y0, c0, _⟩ := h.x0
  obtain ⟨y1, c1, _⟩ := h.x1
  exact ⟨⟨u, World.cell?_setCell_same _ _ _ c0, fun _ => hu⟩, ⟨y1, (World.cell?_setCell_other _ _ _ _ (by simp)).trans c1, fun q => by omega⟩, (World.frozen?_setCell _ _ _ _).trans h.f0, (World.frozen?_setCell _ _ _ _).trans h.f1, (h.bl.setCell h.lg _).drew, h.lg⟩
theorem Cut16.put1 {N : Nat} {w : World} {p : List UInt8} {g : Nat} {wr : World} (h : Cut16 N w p g wr 1) {u : Value} (hu : Rk N w u (p.drop 4096)) : Cut16 N w p g (wr.setCell ⟨g, 1, none⟩ u).drew 2 := by
  obtain ⟨y0, c0, r0⟩ := h.x0
  obtain ⟨y1, c1, _⟩ := h.x1
  exact ⟨⟨y0, (World.cell?_setCell_other _ _ _ _ (by simp)).trans c0, fun _ => r0 (Nat.le_refl _)⟩, ⟨u, World.cell?_setCell_same _ _ _ c1, fun _ => hu⟩, (World.frozen?_setCell _ _ _ _).trans h.f0, (World.frozen?_setCell _ _ _ _).trans h.f1, (h.bl.setCell h.lg _).drew, h.lg⟩
theorem cut_moves {p : Prop} (h : p := by
  go_wp2_with fail
  refine wp_region_held_drew (S := fun _ => True) (by kernel_rfl) trivial (fun hHeld => ?_)
  refine tkH 0 ?_
  refine tkH 1 ?_
  refine tkH 2 ?_
  refine tkH 3 ?_
  refine tkH 4 ?_
  refine tkH 5 ?_
  refine tkH 6 ?_
  refine tkH 7 ?_
  refine tkH 8 ?_
  refine tkH 9 ?_
  refine rnH 10 fun K hK => ?_
  go_simp
  refine koH hK trivial fun hHeld => ?_
  clear hK K
  refine tkH 11 ?_
  refine wpAnyH_done (by kernel_rfl) ?_ _
  go_wp2
  go_roundw
  case rel => first | exact ⟨1, _, by omega, rfl, rfl, R2.out, C2.out⟩ | exact ⟨2, _, by omega, rfl, rfl, R2.out, C2.out⟩
  case measure => simp [intOf]) : p := h
set_option maxRecDepth 100000 in
set_option maxHeartbeats 2000000 in
theorem cut16_far {N : Nat} {w : World} {v : Value} {p : List UInt8} (h : Rk N w v p) (hN : N ≤ w.heap.size) (hl : p.length ≤ 8192) : Calls Tryz.prog 123 #[v] w fun e w' => ∃ u, e = .returned u ∧ Rs w' u [p.take 4096, p.drop 4096] ∧ KeepRs N w' u [p.take 4096, p.drop 4096] ∧ Below w.heap.size w w' := by
  have HN : Hid (N ≤ w.heap.size) := hN
  clear hN
  obtain ⟨a, cp, rfl⟩ := h.form
  have mk := run_make_row' (P := Tryz.prog) 140 42 (.slice none 0 0) 24 Tryz.underlying140 info_bytes16 rfl .i64 .i64 2 (by omega) (by omega) w
  obtain ⟨w1, hw1⟩ : ∃ w1, w1 = w.alloc (.cells (madeCells #[.slice none 0 0] 2) 42) := ⟨_, rfl⟩
  have C1 : Cut16 N w p w.heap.size w1 0 := ⟨⟨.slice none 0 0, by rw [hw1, World.cell?_alloc_new]; kernel_rfl, fun q => by omega⟩, ⟨.slice none 0 0, by rw [hw1, World.cell?_alloc_new]; kernel_rfl, fun q => by omega⟩, by rw [hw1]; simp [go_sem], by rw [hw1]; simp [go_sem], by rw [hw1]; exact belR _ _, Nat.le_refl _⟩
  rw [← hw1] at mk
  clear hw1
  have mk2 : (Instr.makeSlice 140 (.int .i64 2) (.int .i64 2)).run Tryz.prog w = .ok (.slice (some ⟨w.heap.size, 0, none⟩) 2 2) w1 := mk
  clear mk
  go_enter Tryz.func123, Tryz.ntmps123
  go_wp2
  clear mk2
  go_loopw [0, 9] (fun b i wr => ∃ (r : Nat) (u : Value), r ≤ 2 ∧ i = .int .i64 (r : Int) ∧ b = u ∧ Rk N w u (p.drop (4096 * r)) ∧ Cut16 N w p w.heap.size wr r) (fun _ i _ => 2 - (intOf i).toNat)
  case atStart => exact ⟨0, _, Nat.zero_le _, rfl, rfl, h, C1⟩
  case round =>
    obtain ⟨r, u, hr, rfl, rfl, hu, hC⟩ := hrel
    clear h C1
    have hc : r = 0 ∨ r = 1 ∨ r = 2 := by omega
    rcases hc with rfl | rfl | rfl
    · obtain ⟨y, c, _⟩ := hC.x0
      have f := hC.f0
      obtain ⟨ua, uc, rfl⟩ := hu.form
      have hcap := (rd_cap hu.rd).2
      have hq : (p.drop (4096 * 0)).length = p.length - 4096 * 0 := List.length_drop
      by_cases hm : (4096 : Int) < ((p.drop (4096 * 0)).length : Int)
      · have E1 : ∀ W, (Instr.slice 42 (.slice ua (p.drop (4096 * 0)).length uc) none (some (.int .i64 4096)) (some (.int .i64 4096))).run Tryz.prog W = .ok (.slice ua 4096 4096) W := fun W => cut_hm16 W ua (k := 4096) (by omega)
        have E2 := fun W => cut_lo16 W ua (n := (p.drop (4096 * 0)).length) (c := uc) (k := 4096) (by omega)
        obtain ⟨a2, ha2⟩ : ∃ a2, a2 = (if uc = 4096 then ua else ua.map (·.add 4096)) := ⟨_, rfl⟩
        have R1 := hu.firstK (k := 4096) (by omega)
        have R2 : Hid (Rk N w (.slice a2 ((p.drop (4096 * 0)).length - 4096) (uc - 4096)) (p.drop (4096 * (0 + 1)))) := by
          have e := hu.rest16 (k := 4096) (by omega)
          rw [← ha2] at e
          rw [List.drop_drop] at e; exact e
        rw [← ha2] at E2
        have C2 : Hid _ := hC.put0 (u := .slice ua 4096 4096) (by exact R1)
        generalize (p.drop (4096 * 0)).length - 4096 = n2 at E2 R2
        generalize uc - 4096 = c2 at E2 R2
        have E2' : ∀ W, (Instr.slice 42 (.slice ua (p.drop (4096 * 0)).length uc) (some (.int .i64 4096)) none none).run Tryz.prog W = .ok (.slice a2 n2 c2) W := E2
        clear ha2 E2 hu hC R1 hcap
        generalize (p.drop (4096 * 0)).length = m at E1 E2' hm C2
        clear hq
        exact cut_moves
      · have E1 : ∀ W, (Instr.slice 42 (.slice ua (p.drop (4096 * 0)).length uc) none (some (.int .i64 ((p.drop (4096 * 0)).length : Int))) (some (.int .i64 ((p.drop (4096 * 0)).length : Int)))).run Tryz.prog W = .ok (.slice ua (p.drop (4096 * 0)).length (p.drop (4096 * 0)).length) W := fun W => cut_hm16 W ua (by omega)
        have E2 := fun W => cut_lo16 W ua (n := (p.drop (4096 * 0)).length) (c := uc) (k := (p.drop (4096 * 0)).length) (by omega)
        obtain ⟨a2, ha2⟩ : ∃ a2, a2 = (if uc = (p.drop (4096 * 0)).length then ua else ua.map (·.add (p.drop (4096 * 0)).length)) := ⟨_, rfl⟩
        have R1 := hu.firstK (k := (p.drop (4096 * 0)).length) (by omega)
        have R2 : Hid (Rk N w (.slice a2 ((p.drop (4096 * 0)).length - (p.drop (4096 * 0)).length) (uc - (p.drop (4096 * 0)).length)) (p.drop (4096 * (0 + 1)))) := by
          have e := hu.rest16 (k := (p.drop (4096 * 0)).length) (by omega)
          rw [← ha2] at e
          rw [List.drop_eq_nil_of_le (show p.length ≤ 4096 * (0 + 1) by omega)]; rw [List.drop_length] at e; exact e
        rw [← ha2] at E2
        have C2 : Hid _ := hC.put0 (u := .slice ua (p.drop (4096 * 0)).length (p.drop (4096 * 0)).length) (by rw [List.take_length] at R1; rw [List.take_of_length_le (show p.length ≤ 4096 by omega)]; exact R1)
        generalize (p.drop (4096 * 0)).length - (p.drop (4096 * 0)).length = n2 at E2 R2
        generalize uc - (p.drop (4096 * 0)).length = c2 at E2 R2
        have E2' : ∀ W, (Instr.slice 42 (.slice ua (p.drop (4096 * 0)).length uc) (some (.int .i64 ((p.drop (4096 * 0)).length : Int))) none none).run Tryz.prog W = .ok (.slice a2 n2 c2) W := E2
        clear ha2 E2 hu hC R1 hcap
        generalize (p.drop (4096 * 0)).length = m at E1 E2' hm C2
        clear hq
        exact cut_moves
    · obtain ⟨y, c, _⟩ := hC.x1
      have f := hC.f1
      obtain ⟨ua, uc, rfl⟩ := hu.form
      have hcap := (rd_cap hu.rd).2
      have hq : (p.drop (4096 * 1)).length = p.length - 4096 * 1 := List.length_drop
      have hm : ¬ (4096 : Int) < ((p.drop (4096 * 1)).length : Int) := by omega
      · have E1 : ∀ W, (Instr.slice 42 (.slice ua (p.drop (4096 * 1)).length uc) none (some (.int .i64 ((p.drop (4096 * 1)).length : Int))) (some (.int .i64 ((p.drop (4096 * 1)).length : Int)))).run Tryz.prog W = .ok (.slice ua (p.drop (4096 * 1)).length (p.drop (4096 * 1)).length) W := fun W => cut_hm16 W ua (by omega)
        have E2 := fun W => cut_lo16 W ua (n := (p.drop (4096 * 1)).length) (c := uc) (k := (p.drop (4096 * 1)).length) (by omega)
        obtain ⟨a2, ha2⟩ : ∃ a2, a2 = (if uc = (p.drop (4096 * 1)).length then ua else ua.map (·.add (p.drop (4096 * 1)).length)) := ⟨_, rfl⟩
        have R1 := hu.firstK (k := (p.drop (4096 * 1)).length) (by omega)
        have R2 : Hid (Rk N w (.slice a2 ((p.drop (4096 * 1)).length - (p.drop (4096 * 1)).length) (uc - (p.drop (4096 * 1)).length)) (p.drop (4096 * (1 + 1)))) := by
          have e := hu.rest16 (k := (p.drop (4096 * 1)).length) (by omega)
          rw [← ha2] at e
          rw [List.drop_eq_nil_of_le (show p.length ≤ 4096 * (1 + 1) by omega)]; rw [List.drop_length] at e; exact e
        rw [← ha2] at E2
        have C2 : Hid _ := hC.put1 (u := .slice ua (p.drop (4096 * 1)).length (p.drop (4096 * 1)).length) (by rw [List.take_length] at R1; exact R1)
        generalize (p.drop (4096 * 1)).length - (p.drop (4096 * 1)).length = n2 at E2 R2
        generalize uc - (p.drop (4096 * 1)).length = c2 at E2 R2
        have E2' : ∀ W, (Instr.slice 42 (.slice ua (p.drop (4096 * 1)).length uc) (some (.int .i64 ((p.drop (4096 * 1)).length : Int))) none none).run Tryz.prog W = .ok (.slice a2 n2 c2) W := E2
        clear ha2 E2 hu hC R1 hcap
        generalize (p.drop (4096 * 1)).length = m at E1 E2' hm C2
        clear hq
        exact cut_moves
    · obtain ⟨y0, c0, r0⟩ := hC.x0
      obtain ⟨y1, c1, r1⟩ := hC.x1
      have lw : w.heap.size < wr.heap.size := World.block_lt_of_cell? _ _ c0
      have FIN : Hid (Rs wr (.slice (some ⟨w.heap.size, 0, none⟩) 2 2) [p.take 4096, p.drop 4096] ∧ KeepRs N wr (.slice (some ⟨w.heap.size, 0, none⟩) 2 2) [p.take 4096, p.drop 4096] ∧ Below w.heap.size w wr) := by
        refine ⟨⟨_, 2, rfl, Nat.le_refl _, by decide, (fun q => by cases q), fun i hi => ?_⟩, ⟨_, 2, rfl, Nat.le_refl _, by decide, (fun q => by cases q), fun i hi => ?_⟩, hC.bl⟩
        · have hi2 : i = 0 ∨ i = 1 := by simp at hi; omega
          rcases hi2 with rfl | rfl
          · exact ⟨w.heap.size, 0, y0, rfl, lw, c0, ((r0 (by omega)).below hC.bl).rd⟩
          · exact ⟨w.heap.size, 0, y1, rfl, lw, c1, ((r1 (by omega)).below hC.bl).rd⟩
        · have hi2 : i = 0 ∨ i = 1 := by simp at hi; omega
          rcases hi2 with rfl | rfl
          · exact ⟨w.heap.size, 0, y0, rfl, HN.out, lw, c0, (r0 (by omega)).below hC.bl⟩
          · exact ⟨w.heap.size, 0, y1, rfl, HN.out, lw, c1, (r1 (by omega)).below hC.bl⟩
      obtain ⟨ua, uc, rfl⟩ := hu.form
      clear hu hC c0 c1 r0 r1
      go_wp2
      go_ret
      exact ⟨_, rfl, FIN.out.1, FIN.out.2.1, FIN.out.2.2⟩
end Go.Proofs.YtclieefpnbdbjaaGreat.Gf

namespace Go.Proofs.YtclieefpnbdbjaaGreat.Gf
set_option linter.unusedVariables false
set_option linter.unusedSimpArgs false
open Go.RowKit
/-- .. in new memory -/
def Snaps16F (w : World) (L : List ObV) (e : Ending) (w' : World) : Prop :=
  (MayL (oL L) ∧ ∃ u, e = .returned (.tuple #[u, .int .i64 0]) ∧ Rs w' u (snP (oL L)) ∧ KeepRs w.heap.size w' u (snP (oL L)) ∧ Below w.heap.size w w') ∨ (¬ MayL (oL L) ∧ e = .returned (.tuple #[.slice none 0 0, .int .i64 1]) ∧ Below w.heap.size w w')
theorem obs_step {L : List ObV} {r : Nat} (h : r < L.length) : obsB ((oL L).take (r + 1)) = obsB ((oL L).take r) ++ obB (L.getD r default).o := by
  have h' : r < (oL L).length := by rw [oL_length]; exact h
  rw [List.take_succ_eq_append_getElem h', obsB_append]
  show _ ++ (obB (oL L)[r] ++ []) = _
  have e : (oL L)[r] = (L.getD r default).o := by
    rw [← oL_getD, List.getD_eq_getElem?_getD, List.getElem?_eq_getElem h']; rfl
  rw [e, List.append_nil]
theorem obs_take {L : List ObV} (h : MayL (oL L)) (r : Nat) : (obsB ((oL L).take r)).length ≤ 6000 := by
  have e : obsB (oL L) = obsB ((oL L).take r) ++ obsB ((oL L).drop r) := by rw [← obsB_append, List.take_append_drop]
  have h1 := snB_le h
  unfold snB at h1
  rw [e, List.length_append, List.length_append] at h1
  omega
end Go.Proofs.YtclieefpnbdbjaaGreat.Gf

namespace Go.Proofs.YtclieefpnbdbjaaGreat.Gf
set_option linter.unusedVariables false
set_option linter.unusedSimpArgs false
open Go.RowKit
set_option maxRecDepth 100000 in
set_option maxHeartbeats 4000000 in
theorem snap16_far {w : World} {v : Value} {L : List ObV} (h : RdO w v L) (hs : ∀ i, i < L.length → (L.getD i default).o.st.length ≤ 1000000) : Calls Tryz.prog 77 #[v] w (Snaps16F w L) := by
  have K0 := mbt16_any h hs
  obtain ⟨a, cp, rfl⟩ := h.form
  go_enter Tryz.func77, Tryz.ntmps77
  go_wp2_with fail
  refine K0.mono ?_
  rintro _ w2 ⟨x, rfl, hx, B2⟩
  clear K0
  have HX : Hid (x = true ↔ MayL (oL L)) := hx
  clear hx
  cases x with
  | false =>
    have N : Hid (¬ MayL (oL L)) := fun q => by have := HX.out.2 q; cases this
    clear HX h hs
    go_wp2
    exact bodyPost_ret (v := .tuple #[.slice none 0 0, .int .i64 1]) (by simp [results, Tryz.results77, go_sem]) rfl (Or.inr ⟨N.out, rfl, B2⟩)
  | true =>
    have Y : Hid (MayL (oL L)) := HX.out.1 rfl
    clear HX
    have l64 : L.length ≤ 64 := by have := Y.out.1; rwa [oL_length] at this
    have oN : OwnP w2 w2.heap.size 5 (.slice none 0 0) [] := World.ownsRow_nil w2 w2.heap.size 5 1
    have K1 := num16_any (n := L.length) (k := 2) (z := 2) oN (Nat.le_refl _) (by omega) (by show 0 ≤ _; omega) rfl rfl
    go_wp2_with fail
    refine K1.mono ?_
    rintro _ w3 ⟨v3, rfl, o3, G3⟩
    clear K1
    rw [List.nil_append, nb_two] at o3
    have B3 : Below w2.heap.size w2 w3 := G3.below (Below.refl _ _) (Nat.le_refl _) oN
    clear G3 oN
    obtain ⟨a3, c3, e3⟩ := owns_form o3
    subst e3
    have LB : Hid (∀ r, (obsB ((oL L).take r)).length ≤ 6000) := fun r => obs_take Y.out r
    go_wp2_with fail
    go_loopw [4, 15] (fun ov i wr => ∃ r : Nat, r ≤ L.length ∧ i = .int .i64 (r : Int) ∧ OwnP wr w2.heap.size 5 ov (tw L.length ++ obsB ((oL L).take r)) ∧ Hid (Below w2.heap.size w2 wr)) (fun _ i _ => L.length - (intOf i).toNat)
    case atStart => exact ⟨0, Nat.zero_le _, rfl, ownAs o3 (by rw [List.take_zero, show obsB [] = [] from rfl, List.append_nil]), B3⟩
    case round =>
      clear o3 B3
      obtain ⟨r, hr, rfl, hO, hB⟩ := hrel
      obtain ⟨Q, hQ⟩ : ∃ Q, Hid (Q = tw L.length ++ obsB ((oL L).take r)) := ⟨_, rfl⟩
      have hQl : Q.length ≤ 6002 := by rw [hQ.out, List.length_append, tw_length]; have := LB.out r; omega
      rw [← hQ.out] at hO
      obtain ⟨oa, oc, rfl⟩ := owns_form hO
      have BW := B2.step16 hB.out B2.size
      by_cases hlt : r < L.length
      · have hlt' : (r : Int) < (L.length : Int) := by omega
        obtain ⟨b, off, rfl, hb, cz⟩ := (h.below BW).at hlt
        obtain ⟨_, _, ea, _, cw⟩ := h.at hlt
        have rsW : Hid (∀ W, Below w.heap.size w W → RdI W (L.getD r default).vs (L.getD r default).o.st) := fun W q => cw.rs.below q
        have ok : Hid (OkO (L.getD r default).o) := ((may_up.1 Y.out).2.1 r hlt).1
        have HQ2 : Hid (Q ++ obB (L.getD r default).o = tw L.length ++ obsB ((oL L).take (r + 1))) := by
          show _ = _
          rw [hQ.out, obs_step hlt, List.append_assoc]
        clear ea cw
        generalize L.getD r default = c at cz rsW ok HQ2
        obtain ⟨⟨ky, ln, ep, st⟩, vs⟩ := c
        obtain ⟨a2, c2, e⟩ := cz.rs.form
        simp only at e ok HQ2 rsW
        subst e
        have z0 : wr.cell? ⟨b, off + r * 4, none⟩ = some (.string ⟨ky.toArray⟩) := cz.c0
        have z1 : wr.cell? ⟨b, off + r * 4 + 1, none⟩ = some (.int .i64 ln) := cz.c1
        have z2 : wr.cell? ⟨b, off + r * 4 + 2, none⟩ = some (.int .i64 ep) := cz.c2
        have z3 : wr.cell? ⟨b, off + r * 4 + 3, none⟩ = some (.slice a2 st.length c2) := cz.c3
        obtain ⟨w1, hw1⟩ : ∃ w1, w1 = wr.alloc (.cells #[.string ⟨ky.toArray⟩, .int .i64 ln, .int .i64 ep, .slice a2 st.length c2] 92) := ⟨_, rfl⟩
        have B1 : Below wr.heap.size wr w1 := by rw [hw1]; exact belR _ _
        have s1 : wr.heap.size < w1.heap.size := by rw [hw1]; show wr.heap.size < (wr.heap.push _).size; rw [Array.size_push]; exact Nat.lt_succ_self _
        have y : ∀ j, w1.cell? ⟨wr.heap.size, j, none⟩ = #[Value.string ⟨ky.toArray⟩, .int .i64 ln, .int .i64 ep, .slice a2 st.length c2][j]? := fun j => by rw [hw1, World.cell?_alloc_new]
        have o1 : OwnP w1 w2.heap.size 5 (.slice oa Q.length oc) Q := owns_later hO B1
        have hne : (Value.slice oa Q.length oc).ownBlock ≠ some wr.heap.size := own_ne hO (Nat.le_refl _)
        have C1 : Below w2.heap.size w2 w1 := hB.out.step16 B1 hB.out.size
        have hep := ok.out.2
        have K1 := num16_any (n := ep.toNat) (k := 4) (z := 4) o1 C1.size (by omega) (by omega) (Int.toNat_of_nonneg hep.1).symm rfl
        clear cz BW hO
        have y2 : w1.cell? ⟨wr.heap.size, 2, none⟩ = some (.int .i64 ep) := y 2
        go_wp2_with fail
        rw [← hw1]
        clear hw1 y2 z0 z1 z2 z3
        refine K1.mono ?_
        rintro _ w4 ⟨v4, rfl, o4, G4⟩
        clear K1
        rw [nb_four] at o4
        obtain ⟨Q4, hQ4⟩ : ∃ Q4, Hid (Q4 = Q ++ fo ep.toNat) := ⟨_, rfl⟩
        rw [← hQ4.out] at o4
        have hQ4l : Q4.length ≤ 6010 := by rw [hQ4.out, List.length_append, fo_length]; omega
        have C4 : Below w2.heap.size w2 w4 := G4.below C1 C1.size o1
        have y' : ∀ j, w4.cell? ⟨wr.heap.size, j, none⟩ = #[Value.string ⟨ky.toArray⟩, .int .i64 ln, .int .i64 ep, .slice a2 st.length c2][j]? := fun j => (G4.cell (p := ⟨wr.heap.size, j, none⟩) s1 hne).trans (y j)
        have x0 : w4.cell? ⟨wr.heap.size, 0, none⟩ = some (.string ⟨ky.toArray⟩) := y' 0
        have x1 : w4.cell? ⟨wr.heap.size, 1, none⟩ = some (.int .i64 ln) := y' 1
        have x2 : w4.cell? ⟨wr.heap.size, 2, none⟩ = some (.int .i64 ep) := y' 2
        have x3 : w4.cell? ⟨wr.heap.size, 3, none⟩ = some (.slice a2 st.length c2) := y' 3
        have BW4 : Below w.heap.size w w4 := B2.step16 C4 B2.size
        have K2 : Calls Tryz.prog 122 #[.agg #[.string ⟨ky.toArray⟩, .int .i64 ln, .int .i64 ep, .slice a2 st.length c2]] w4 (fun e w' => e = .returned (aggR ⟨putR ⟨ky, ln, ep, st⟩, .slice a2 st.length c2⟩) ∧ Below w4.heap.size w4 w') := put16_any (c := ⟨⟨ky, ln, ep, st⟩, .slice a2 st.length c2⟩) (rsW.out w4 BW4)
        clear G4 o1 C1 y y' hne s1 B1
        obtain ⟨a4, c4, e4⟩ := owns_form o4
        subst e4
        go_wp2_with fail
        refine K2.mono ?_
        rintro _ w5 ⟨rfl, B5⟩
        clear K2 x0 x1 x2 x3
        have o5 : OwnP w5 w2.heap.size 5 (.slice a4 Q4.length c4) Q4 := owns_later o4 B5
        have C5 : Below w2.heap.size w2 w5 := C4.step16 B5 C4.size
        have K3 := wrec16_any (c := ⟨putR ⟨ky, ln, ep, st⟩, .slice a2 st.length c2⟩) o5 C5.size ok.out.1 (fun W V g => rsW.out W (B2.step16 (g.below C5 C5.size o5) B2.size)) (by omega)
        clear C4 B5 BW4 o4
        go_wp2_with fail
        refine K3.mono ?_
        rintro _ w6 ⟨v6, rfl, o6, G6⟩
        have C6 : Hid (Below w2.heap.size w2 w6) := G6.below C5 C5.size o5
        have o7 := ownAs o6 (show _ = tw L.length ++ obsB ((oL L).take (r + 1)) by rw [hQ4.out, List.append_assoc]; exact HQ2.out)
        clear K3 o5 o6 G6 C5
        go_wp2
        go_roundw
        case rel => exact ⟨r + 1, by omega, by go_num, o7, C6⟩
        case measure => simp [intOf]; omega
      · obtain rfl : r = L.length := by omega
        have hge : ¬ (L.length : Int) < (L.length : Int) := by omega
        have eQ : Hid (Q = snB (oL L)) := by
          show _ = _
          rw [hQ.out]
          unfold snB
          rw [oL_length, ← oL_length L, List.take_length]
        have lQ : Q.length ≤ 8192 := by omega
        have K4 := cut16_far (N := w.heap.size) (Rk.own hO (Rd.owned hO) B2.size) BW.size lQ
        clear h hs hO
        go_wp2_with fail
        refine K4.mono ?_
        rintro _ w6 ⟨u, rfl, RS, KS, B6⟩
        clear K4
        have FIN : Hid (Snaps16F w L (.returned (.tuple #[u, .int .i64 0])) w6) := Or.inl ⟨Y.out, u, rfl, by rw [eQ.out] at RS; exact RS, by rw [eQ.out] at KS; exact KS, BW.step16 B6 BW.size⟩
        obtain ⟨ua, uc, rfl⟩ := RS.form
        clear RS KS eQ
        go_wp2
        exact bodyPost_ret (v := .tuple #[.slice ua _ uc, .int .i64 0]) (by simp [results, Tryz.results77, go_sem]) rfl FIN.out
end Go.Proofs.YtclieefpnbdbjaaGreat.Gf
