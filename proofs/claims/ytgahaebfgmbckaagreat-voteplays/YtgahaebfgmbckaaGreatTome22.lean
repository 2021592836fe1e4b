/- TEXTS JOINED: ArNew, ArAwN, ArRef, ArRm. -/
import Derived.Test.YtgahaebfgmbckaaGreatTome21
import Derived.Test.YtgahaebfgmbckaaGreatTome16
namespace Go.Proofs.YtgahaebfgmbckaaGreat.Gf
set_option linter.unusedVariables false
set_option linter.unusedSimpArgs false
open Go.RowKit
theorem info_member : (Tryz.prog.info? 57).map (fun i => (i.zero, i.size, i.bytes)) = some (some (.agg #[.pointer none, .int .i64 0]), 2, 16) := by kernel_rfl
/-- a row of members that are not yet -/
theorem run_make_members (n : Nat) (hn : n ≤ 32) (w : World) : (Instr.makeSlice 50 (.int .i64 (n : Int)) (.int .i64 (n : Int))).run Tryz.prog w = .ok (.slice (some ⟨w.heap.size, 0, none⟩) n n) (w.alloc (.cells (madeCells #[.pointer none, .int .i64 0] (n * 2)) 57)) := by
  obtain ⟨i, hi, hzz⟩ := Option.map_eq_some_iff.1 info_member
  simp only [Prod.mk.injEq] at hzz
  obtain ⟨hz, hs, hb⟩ := hzz
  have hr := run_make (P := Tryz.prog) w 50 57 i _ Tryz.underlying50 hi hz .i64 .i64 n n (by omega) (Int.le_refl _) (by rw [hb]; omega) (by omega)
  simp only [Int.toNat_natCast, hs] at hr
  exact hr
/-- a row of members, the first k of which have disks -/
def nfR (db : Nat → Nat) (k : Nat) (j : Nat) : Value := if j % 2 = 0 then (if j / 2 < k then .pointer (some ⟨db (j / 2), 0, none⟩) else .pointer none) else .int .i64 0
def faR (mb n : Nat) (j : Nat) : Value := if j = 0 then .slice (some ⟨mb, 0, none⟩) n n else if j = 1 then .int .i64 0 else .bool false
structure NewI (w wr : World) (ab mb n k s : Nat) (db : Nat → Nat) (GD : Nat → Nat → Prop) : Prop where
  b : Below w.heap.size w wr
  la : w.heap.size ≤ ab
  lm : w.heap.size ≤ mb
  ne : ab ≠ mb
  ra : wr.rowIs ab 52 3 (faR mb n)
  rm : wr.rowIs mb 57 (n * 2) (nfR db k)
  dk : ∀ i, i < k → DiskAt wr (db i) (GD i) (newD s)
  sep : ∀ i j, i < k → j < k → i ≠ j → ∀ x, GD i x → ¬ GD j x
  up : ∀ i, i < k → ∀ x, GD i x → x ≠ ab ∧ x ≠ mb ∧ w.heap.size ≤ x
section
variable {w wr w1 : World} {ab mb n k s : Nat} {db : Nat → Nat} {GD : Nat → Nat → Prop}
theorem NewI.step (h : NewI w wr ab mb n k s db GD) (hk : k < n) {d : Nat} {G : Nat → Prop} (hD : DiskAt w1 d G (newD s)) (hG : ∀ x, G x → wr.heap.size ≤ x) (hb : Below wr.heap.size wr w1) :
    NewI w (w1.setCell ⟨mb, k * 2, none⟩ (.pointer (some ⟨d, 0, none⟩))) ab mb n (k + 1) s (fun i => if i = k then d else db i) (fun i => if i = k then G else GD i) := by
  have lm := h.rm.lt
  have la := h.ra.lt
  have kb : ∀ x, x ≠ mb → (w1.setCell ⟨mb, k * 2, none⟩ (.pointer (some ⟨d, 0, none⟩))).heap[x]? = w1.heap[x]? := fun x hx => Below.heap_setCell w1 ⟨mb, k * 2, none⟩ _ x hx
  refine ⟨(h.b.trans (hb.mono h.b.size)).setCell h.lm _, h.la, h.lm, h.ne, ?_, ?_, ?_, ?_, ?_⟩
  · exact (h.ra.of_block (hb.block ab la)).setOther h.ne _
  · refine ((h.rm.of_block (hb.block mb lm)).set (k * 2) (.pointer (some ⟨d, 0, none⟩))).congr fun j hj => ?_
    unfold nfR
    by_cases e : j = k * 2
    · subst e
      rw [if_pos rfl, if_pos (by omega), if_pos (by omega)]
      show _ = Value.pointer (some ⟨if k * 2 / 2 = k then d else db (k * 2 / 2), 0, none⟩)
      rw [if_pos (by omega)]
    · rw [if_neg e]
      by_cases e1 : j % 2 = 0
      · rw [if_pos e1, if_pos e1]
        by_cases e2 : j / 2 < k
        · rw [if_pos e2, if_pos (by omega)]
          show _ = Value.pointer (some ⟨if j / 2 = k then d else db (j / 2), 0, none⟩)
          rw [if_neg (by omega)]
        · rw [if_neg e2, if_neg (by omega)]
      · rw [if_neg e1, if_neg e1]
  · intro i hi
    show DiskAt _ (if i = k then d else db i) (if i = k then G else GD i) _
    by_cases e : i = k
    · rw [if_pos e, if_pos e]
      exact hD.keep (fun x hx => kb x (fun e2 => by have := hG x hx; omega)) (by simp)
    · rw [if_neg e, if_neg e]
      have h1 := (h.dk i (by omega)).below hb
      exact h1.keep (fun x hx => kb x (h.up i (by omega) x hx).2.1) (by simp)
  · intro i j hi hj hne x hx hx2
    replace hx : (if i = k then G else GD i) x := hx
    replace hx2 : (if j = k then G else GD j) x := hx2
    by_cases e : i = k
    · rw [if_pos e] at hx
      rw [if_neg (by omega)] at hx2
      have h1 := hG x hx
      have h2 := (h.dk j (by omega)).lt x hx2
      omega
    · rw [if_neg e] at hx
      by_cases e2 : j = k
      · rw [if_pos e2] at hx2
        have h1 := hG x hx2
        have h2 := (h.dk i (by omega)).lt x hx
        omega
      · rw [if_neg e2] at hx2
        exact h.sep i j (by omega) (by omega) hne x hx hx2
  · intro i hi x hx
    replace hx : (if i = k then G else GD i) x := hx
    by_cases e : i = k
    · rw [if_pos e] at hx
      have h1 := hG x hx
      have h2 := h.b.size
      exact ⟨by omega, by omega, by omega⟩
    · rw [if_neg e] at hx
      exact h.up i (by omega) x hx
theorem rep_getD {α : Type} {n i : Nat} {x d : α} (h : i < n) : (List.replicate n x).getD i d = x := by simp [List.getD, h]
theorem NewI.done (h : NewI w wr ab mb n n s db GD) (h1 : 1 ≤ n) (h2 : n ≤ 32) (h3 : 1 ≤ s) (h4 : s ≤ 4096) : ArAt wr ab (fun x => x = ab ∨ x = mb ∨ ∃ i, i < n ∧ GD i x) (newA n s) := by
  have hl : (newA n s).D.length = n := by simp [newA]
  refine ⟨mb, db, GD, ⟨?_, h.ra.cell (i := 1) (by omega), h.ra.cell (i := 2) (by omega), h.ra.frozen 1, h.ra.frozen 2, fun i hi => ?_, fun i hi => ?_, fun i hi => h.rm.frozen _, fun i hi => ?_, fun i j hi hj => h.sep i j (hl ▸ hi) (hl ▸ hj), fun i hi => ⟨fun e => (h.up i (hl ▸ hi) _ e).1 rfl, fun e => (h.up i (hl ▸ hi) _ e).2.1 rfl⟩, h.ne, Or.inl rfl, Or.inr (Or.inl rfl), fun i hi x hx => Or.inr (Or.inr ⟨i, hl ▸ hi, hx⟩), fun x hx => ?_, by rw [hl]; exact h1, by rw [hl]; exact h2, by simp [newA], by simp [newA]; decide⟩, newA_ok h1 h2 h3 h4⟩
  · rw [hl]; exact h.ra.cell (i := 0) (by omega)
  · rw [hl] at hi
    rw [h.rm.cell (by omega)]
    unfold nfR
    rw [if_pos (by omega), if_pos (by omega), show i * 2 / 2 = i by omega]
  · rw [hl] at hi
    rw [h.rm.cell (by omega)]
    unfold nfR
    rw [if_neg (by omega)]
    simp only [newA]
    rw [rep_getD hi]
  · rw [hl] at hi
    simp only [newA]
    rw [rep_getD hi]
    exact h.dk i hi
  · rcases hx with h5 | h5 | ⟨i, hi, h5⟩
    · rw [h5]; exact h.ra.lt
    · rw [h5]; exact h.rm.lt
    · exact (h.dk i hi).lt x h5
end
/-- a new array -/
def NewsA (w : World) (n s : Nat) (e : Ending) (w' : World) : Prop := ∃ ab GA, e = .returned (.tuple #[.pointer (some ⟨ab, 0, none⟩), .int .i64 0]) ∧ ArAt w' ab GA (newA n s) ∧ (∀ k, GA k → w.heap.size ≤ k) ∧ Below w.heap.size w w'
theorem made_two (w : World) (n : Nat) (t : TypeId) : (w.alloc (.cells (madeCells #[.pointer none, .int .i64 0] (n * 2)) t)).rowIs w.heap.size t (n * 2) (nfR (fun _ => 0) 0) := by
  have hs : (madeCells #[Value.pointer none, .int .i64 0] (n * 2)).size = n * 2 := size_madeCells _ _
  have h := World.rowIs_alloc w (madeCells #[.pointer none, .int .i64 0] (n * 2)) t (nfR (fun _ => 0) 0) (fun i hi => by
    rw [hs] at hi
    unfold nfR
    rcases Nat.mod_two_eq_zero_or_one i with e | e <;> simp [madeCells, hi, e])
  rw [hs] at h
  exact h
/-- the members of a new array, laid -/
theorem laid_u (w : World) (n : Nat) (h2 : n ≤ 32) : ∃ u, (Instr.makeSlice 50 (.int .i64 (n : Int)) (.int .i64 (n : Int))).run Tryz.prog w = .ok (.slice (some ⟨w.heap.size, 0, none⟩) n n) u ∧ u.rowIs w.heap.size 57 (n * 2) (nfR (fun _ => 0) 0) ∧ Below w.heap.size w u ∧ u.heap.size = w.heap.size + 1 :=
  ⟨_, run_make_members n h2 w, made_two _ _ _, belA _ _, by simp⟩
theorem laid_a (u : World) (g n : Nat) : (u.alloc (.cells #[.slice (some ⟨g, 0, none⟩) n n, .int .i64 0, .bool false] 52)).rowIs u.heap.size 52 3 (faR g n) :=
  World.rowIs_alloc u #[.slice (some ⟨g, 0, none⟩) n n, .int .i64 0, .bool false] 52 (faR g n) (fun i hi => by
    have hi2 : i < 3 := hi
    match i, hi2 with
    | 0, _ => rfl
    | 1, _ => rfl
    | 2, _ => rfl)
set_option maxRecDepth 100000 in
theorem anew_any {w : World} {n : Nat} {s : Int} (h1 : 1 ≤ n) (h2 : n ≤ 32) (h3 : 1 ≤ s) (h4 : s ≤ 4096) : Calls Tryz.prog 5 #[.int .i64 (n : Int), .int .i64 s] w (NewsA w n s.toNat) := by
  have q1 : ¬ (n : Int) < 1 := by omega
  have q2 : ¬ (n : Int) > 32 := by omega
  obtain ⟨u, mk1, hr, hb, hs⟩ := laid_u w n h2
  obtain ⟨g, hg⟩ : ∃ g, Hid (g = w.heap.size) := ⟨_, rfl⟩
  rw [← hg.out] at mk1 hr
  have hs' : Hid (u.heap.size = w.heap.size + 1) := hs
  have LA := laid_a u g n
  have START : Hid (∃ db GD, NewI w (u.alloc (.cells #[.slice (some ⟨g, 0, none⟩) n n, .int .i64 0, .bool false] 52)) u.heap.size g n 0 s.toNat db GD) :=
    ⟨fun _ => 0, fun _ _ => False, (hb.alloc (by have := hb.size; omega) _), by omega, by rw [hg.out]; exact Nat.le_refl _, by rw [hg.out]; omega, LA, hr.alloc _, fun i hi => absurd hi (Nat.not_lt_zero _), fun i j hi => absurd hi (Nat.not_lt_zero _), fun i hi => absurd hi (Nat.not_lt_zero _)⟩
  have c0 := LA.cell (i := 0) (by omega)
  simp only [faR, if_true] at c0
  clear hs LA hb hr
  go_enter Tryz.func5, Tryz.ntmps5
  go_wp2
  obtain ⟨ab, hab⟩ : ∃ ab, Hid (ab = u.heap.size) := ⟨_, rfl⟩
  rw [← hab.out] at START ⊢
  go_loopw [25] (fun i wr => ∃ k : Nat, k ≤ n ∧ i = .int .i64 (k : Int) ∧ ∃ db GD, NewI w wr ab g n k s.toNat db GD) (fun i _ => n - (intOf i).toNat)
  case atStart => exact ⟨0, Nat.zero_le _, rfl, START.out⟩
  case round =>
    clear START
    obtain ⟨k, hk, rfl, db, GD, hN⟩ := hrel
    by_cases hlt : k < n
    · have hlt' : (k : Int) < (n : Int) := by omega
      have g1 : IntKind.i64.wrap ((k : Int) + 1) = ((k + 1 : Nat) : Int) := by rw [IntKind.wrap_i64]; omega
      go_wp2_with fail
      refine (dmake_any h3 h4).mono ?_
      rintro _ w1 ⟨d, G, rfl, D1, H1, B1⟩
      have c1 : w1.cell? ⟨ab, 0, none⟩ = some (.slice (some ⟨g, 0, none⟩) n n) := (B1.cell (p := ⟨ab, 0, none⟩) hN.ra.lt).trans (hN.ra.cell (i := 0) (by omega))
      have R1 := hN.rm.of_block (B1.block g hN.rm.lt)
      have c2 := R1.cell (i := k * 2) (by omega)
      have f2 := R1.frozen (k * 2)
      have E2 : Hid (∃ db GD, NewI w (w1.setCell ⟨g, k * 2, none⟩ (.pointer (some ⟨d, 0, none⟩))) ab g n (k + 1) s.toNat db GD) := ⟨_, _, hN.step hlt D1 H1 B1⟩
      clear hN D1 H1 B1 R1
      go_wp2
      go_roundw
      case rel => exact ⟨k + 1, by omega, by go_num, E2.out⟩
      case measure => simp [intOf]; omega
    · have hlt' : ¬ (k : Int) < (n : Int) := by omega
      have hkn : k = n := by omega
      rw [hkn] at hN
      have FIN : Hid (∃ GA, ArAt wr ab GA (newA n s.toNat) ∧ (∀ k, GA k → w.heap.size ≤ k) ∧ Below w.heap.size w wr) := ⟨_, hN.done h1 h2 (by omega) (by omega), fun x hx => by
        rcases hx with h5 | h5 | ⟨i, hi, h5⟩
        · rw [h5]; exact hN.la
        · rw [h5]; exact hN.lm
        · exact (hN.up i hi x h5).2.2, hN.b⟩
      clear hN
      go_wp2
      refine bodyPost_ret (v := .tuple #[.pointer (some ⟨ab, 0, none⟩), .int .i64 0]) (by simp [results, Tryz.results5, go_sem]) rfl ?_
      obtain ⟨GA, r⟩ := FIN.out
      exact ⟨ab, GA, rfl, r⟩
end Go.Proofs.YtgahaebfgmbckaaGreat.Gf

namespace Go.Proofs.YtgahaebfgmbckaaGreat.Gf
set_option linter.unusedVariables false
set_option linter.unusedSimpArgs false
open Go.RowKit
section
variable {w w' : World} {ab N : Nat} {GA GA' : Nat → Prop} {a a' : ArS}
/-- an array and the least number of its blocks -/
structure ArB (w : World) (N : Nat) (ab : Nat) (GA : Nat → Prop) (a : ArS) : Prop where
  at_ : ArAt w ab GA a
  low : ∀ k, GA k → N ≤ k
  size : N ≤ w.heap.size
theorem ArB.below (h : ArB w N ab GA a) (hb : Below w.heap.size w w') : ArB w' N ab GA a := ⟨h.at_.below hb, h.low, Nat.le_trans h.size hb.size⟩
theorem ArB.grew (h : ArB w N ab GA a) (hd : ArAt w' ab GA' a') (g : Grew GA w GA' w') : ArB w' N ab GA' a' := ⟨hd, g.base h.low h.size, Nat.le_trans h.size g.turn.size⟩
theorem ArB.bel (h : ArB w N ab GA a) (g : Grew GA w GA' w') : Below N w w' := g.below h.low h.size
end
section
variable {w : World} {ab : Nat} {GA : Nat → Prop} {a : ArS}
theorem awrite_is (h : ArAt w ab GA a) {i ad : Int} (hi : (Lit.int .i64 i).wf = true) (ha : (Lit.int .i64 ad).wf = true) {v : Value} {p : List UInt8} (hp : Rd w v p) {x : Int} (hx : wrAX a i ad p = x) {a' : ArS} (hd : wrAS a i ad p = a') : Calls Tryz.prog 43 #[.pointer (some ⟨ab, 0, none⟩), .int .i64 i, .int .i64 ad, v] w (LeavesA w ab GA a' (.int .i64 x)) := by
  rw [← hx, ← hd]; exact awrite_any h hi ha hp
theorem aread_is (h : ArAt w ab GA a) {i ad : Int} (hi : (Lit.int .i64 i).wf = true) (ha : (Lit.int .i64 ad).wf = true) {x : Int} (hx : rdAX a i ad = x) {p : List UInt8} (hp : rdAB a i ad = p) : Calls Tryz.prog 45 #[.pointer (some ⟨ab, 0, none⟩), .int .i64 i, .int .i64 ad] w (Tells w x p) := by
  rw [← hx, ← hp]; exact aread_any h hi ha
theorem afail_is (h : ArAt w ab GA a) {i : Int} (hi : (Lit.int .i64 i).wf = true) {x : Int} (hx : thX a i = x) : Calls Tryz.prog 53 #[.pointer (some ⟨ab, 0, none⟩), .int .i64 i] w (LeavesA w ab GA (faAS a i) (.int .i64 x)) := by
  rw [← hx]; exact afail_any h hi
theorem aflush_is (h : ArAt w ab GA a) {x : Int} (hx : flAX a = x) {a' : ArS} (hd : flAS a = a') : Calls Tryz.prog 47 #[.pointer (some ⟨ab, 0, none⟩)] w (LeavesA w ab GA a' (.int .i64 x)) := by
  rw [← hx, ← hd]; exact aflush_any h
theorem adown_is (h : ArAt w ab GA a) {x : Bool} (hx : a.off = x) : Calls Tryz.prog 29 #[.pointer (some ⟨ab, 0, none⟩)] w fun e w' => e = .returned (.bool x) ∧ w' = w := by
  rw [← hx]; exact adown_any h
theorem anew_is {w : World} {n s : Int} {m : Nat} (e : n = (m : Int)) (h1 : 1 ≤ m) (h2 : m ≤ 32) (h3 : 1 ≤ s) (h4 : s ≤ 4096) {k : Nat} (hs : s.toNat = k) : Calls Tryz.prog 5 #[.int .i64 n, .int .i64 s] w (NewsA w m k) := by
  subst e hs
  exact anew_any h1 h2 h3 h4
end
end Go.Proofs.YtgahaebfgmbckaaGreat.Gf

namespace Go.Proofs.YtgahaebfgmbckaaGreat.Gf
set_option linter.unusedVariables false
set_option linter.unusedSimpArgs false
open Go.RowKit
section
variable {w w' : World} {rb db : Nat} {H H' K K' G : Nat → Prop} {d : DkS}
/-- a disk of the document's, behind what was done to other blocks (K: those that have turned; H, H': all that may turn, ahead and behind) -/
theorem RefAt.grewH (h : RefAt w rb H d) (g : Grew K w K' w') (hK : ∀ k, K k → H k) (hn : ¬ K rb) (hH : ∀ k, H' k → H k ∨ w.heap.size ≤ k) (hr : H' rb) (hl : ∀ k, H' k → k < w'.heap.size) : RefAt w' rb H' d := by
  obtain ⟨vl, vw, Tl, Tw, h⟩ := h
  have l := h.lt rb h.hr
  have gg : Grew H w H' w' := ⟨⟨g.turn.os, g.turn.tape, g.turn.output, g.turn.size, fun k hk hn2 => g.turn.block k hk (fun e => hn2 (hK k e))⟩, hH⟩
  exact ⟨vl, vw, Tl, Tw, (g.turn.cell (p := ⟨rb, 0, none⟩) l hn).trans h.c0, (g.turn.cell (p := ⟨rb, 1, none⟩) l hn).trans h.c1, (g.turn.cell (p := ⟨rb, 2, none⟩) l hn).trans h.c2, (g.turn.cell (p := ⟨rb, 3, none⟩) l hn).trans h.c3,
    (g.turn.frozen (p := ⟨rb, 1, none⟩) l hn).trans h.f1, (g.turn.frozen (p := ⟨rb, 2, none⟩) l hn).trans h.f2, (g.turn.frozen (p := ⟨rb, 3, none⟩) l hn).trans h.f3, h.el, h.ew, h.tl.grew gg, h.tw.grew gg, h.kl, h.kw, hr, hl, h.s2⟩
end
end Go.Proofs.YtgahaebfgmbckaaGreat.Gf

namespace Go.Proofs.YtgahaebfgmbckaaGreat.Gf
set_option linter.unusedVariables false
set_option linter.unusedSimpArgs false
open Go.RowKit
structure RaM (w : World) (rb xb yb cx cy : Nat) (rd : Nat → Nat) (HR GA : Nat → Prop) (a : ArS) : Prop where
  c0 : w.cell? ⟨rb, 0, none⟩ = some (.slice (some ⟨xb, 0, none⟩) a.D.length cx)
  c1 : w.cell? ⟨rb, 1, none⟩ = some (.slice (some ⟨yb, 0, none⟩) a.D.length cy)
  c2 : w.cell? ⟨rb, 2, none⟩ = some (.int .i64 a.left)
  c3 : w.cell? ⟨rb, 3, none⟩ = some (.bool a.off)
  f2 : w.frozen? ⟨rb, 2, none⟩ = false
  f3 : w.frozen? ⟨rb, 3, none⟩ = false
  x : ∀ i, i < a.D.length → w.cell? ⟨xb, i, none⟩ = some (.pointer (some ⟨rd i, 0, none⟩))
  y : ∀ i, i < a.D.length → w.cell? ⟨yb, i, none⟩ = some (.int .i64 (a.B.getD i 0))
  fy : ∀ i, i < a.D.length → w.frozen? ⟨yb, i, none⟩ = false
  dk : ∀ i, i < a.D.length → RefAt w (rd i) (fun k => HR k ∨ GA k) (a.D.getD i default)
  inj : ∀ i j, i < a.D.length → j < a.D.length → rd i = rd j → i = j
  off : ∀ i, i < a.D.length → rd i ≠ rb ∧ rd i ≠ xb ∧ rd i ≠ yb
  rx : rb ≠ xb
  ry : rb ≠ yb
  xy : xb ≠ yb
  hr : HR rb
  hx : HR xb
  hy : HR yb
  hd : ∀ i, i < a.D.length → HR (rd i)
  dis : ∀ k, HR k → ¬ GA k
  lt : ∀ k, HR k → k < w.heap.size
  lg : ∀ k, GA k → k < w.heap.size
  d1 : 1 ≤ a.D.length
  d2 : a.D.length ≤ 32
  b : a.B.length = a.D.length
  wl : (Lit.int .i64 a.left).wf = true
def RaIn (w : World) (rb xb yb cx cy : Nat) (rd : Nat → Nat) (HR GA : Nat → Prop) (a : ArS) : Prop := RaM w rb xb yb cx cy rd HR GA a ∧ a.Ok
def RaAt (w : World) (rb : Nat) (HR GA : Nat → Prop) (a : ArS) : Prop := ∃ xb yb cx cy rd, RaIn w rb xb yb cx cy rd HR GA a
def LeavesRA (w : World) (rb : Nat) (HR GA : Nat → Prop) (a' : ArS) (x : Value) (e : Ending) (w' : World) : Prop := e = .returned x ∧ RaAt w' rb HR GA a' ∧ TurnG HR w w'
section
variable {w w' : World} {rb xb yb cx cy : Nat} {rd : Nat → Nat} {HR GA GA' : Nat → Prop} {a : ArS}
theorem RaM.below (h : RaM w rb xb yb cx cy rd HR GA a) (hb : Below w.heap.size w w') : RaM w' rb xb yb cx cy rd HR GA a :=
  have l := h.lt rb h.hr
  have lx := h.lt xb h.hx
  have ly := h.lt yb h.hy
  ⟨(hb.cell (p := ⟨rb, 0, none⟩) l).trans h.c0, (hb.cell (p := ⟨rb, 1, none⟩) l).trans h.c1, (hb.cell (p := ⟨rb, 2, none⟩) l).trans h.c2, (hb.cell (p := ⟨rb, 3, none⟩) l).trans h.c3, (hb.frozen (p := ⟨rb, 2, none⟩) l).trans h.f2, (hb.frozen (p := ⟨rb, 3, none⟩) l).trans h.f3,
   fun i hi => (hb.cell (p := ⟨xb, i, none⟩) lx).trans (h.x i hi), fun i hi => (hb.cell (p := ⟨yb, i, none⟩) ly).trans (h.y i hi), fun i hi => (hb.frozen (p := ⟨yb, i, none⟩) ly).trans (h.fy i hi), fun i hi => (h.dk i hi).below hb,
   h.inj, h.off, h.rx, h.ry, h.xy, h.hr, h.hx, h.hy, h.hd, h.dis, fun k hk => Nat.lt_of_lt_of_le (h.lt k hk) hb.size, fun k hk => Nat.lt_of_lt_of_le (h.lg k hk) hb.size, h.d1, h.d2, h.b, h.wl⟩
theorem RaAt.below (h : RaAt w rb HR GA a) (hb : Below w.heap.size w w') : RaAt w' rb HR GA a := by
  obtain ⟨xb, yb, cx, cy, rd, h, ok⟩ := h
  exact ⟨xb, yb, cx, cy, rd, h.below hb, ok⟩
/-- behind what the program's array has done -/
theorem RaM.other (h : RaM w rb xb yb cx cy rd HR GA a) (g : Grew GA w GA' w') (hl : ∀ k, GA' k → k < w'.heap.size) : RaM w' rb xb yb cx cy rd HR GA' a := by
  have l := h.lt rb h.hr
  have lx := h.lt xb h.hx
  have ly := h.lt yb h.hy
  have nr := h.dis rb h.hr
  have nx := h.dis xb h.hx
  have ny := h.dis yb h.hy
  refine ⟨(g.turn.cell (p := ⟨rb, 0, none⟩) l nr).trans h.c0, (g.turn.cell (p := ⟨rb, 1, none⟩) l nr).trans h.c1, (g.turn.cell (p := ⟨rb, 2, none⟩) l nr).trans h.c2, (g.turn.cell (p := ⟨rb, 3, none⟩) l nr).trans h.c3, (g.turn.frozen (p := ⟨rb, 2, none⟩) l nr).trans h.f2, (g.turn.frozen (p := ⟨rb, 3, none⟩) l nr).trans h.f3,
   fun i hi => (g.turn.cell (p := ⟨xb, i, none⟩) lx nx).trans (h.x i hi), fun i hi => (g.turn.cell (p := ⟨yb, i, none⟩) ly ny).trans (h.y i hi), fun i hi => (g.turn.frozen (p := ⟨yb, i, none⟩) ly ny).trans (h.fy i hi), fun i hi => ?_,
   h.inj, h.off, h.rx, h.ry, h.xy, h.hr, h.hx, h.hy, h.hd, fun k hk => g.off (h.lt k hk) (h.dis k hk), fun k hk => Nat.lt_of_lt_of_le (h.lt k hk) g.turn.size, hl, h.d1, h.d2, h.b, h.wl⟩
  refine (h.dk i hi).grewH g (fun k hk => Or.inr hk) (h.dis _ (h.hd i hi)) (fun k hk => ?_) (Or.inl (h.hd i hi)) (fun k hk => ?_)
  · rcases hk with h1 | h1
    · exact Or.inl (Or.inl h1)
    · rcases g.grow k h1 with h2 | h2
      · exact Or.inl (Or.inr h2)
      · exact Or.inr h2
  · rcases hk with h1 | h1
    · exact Nat.lt_of_lt_of_le (h.lt k h1) g.turn.size
    · exact hl k h1
theorem RaAt.other (h : RaAt w rb HR GA a) (g : Grew GA w GA' w') (hl : ∀ k, GA' k → k < w'.heap.size) : RaAt w' rb HR GA' a := by
  obtain ⟨xb, yb, cx, cy, rd, h, ok⟩ := h
  exact ⟨xb, yb, cx, cy, rd, h.other g hl, ok⟩
theorem RaAt.dis (h : RaAt w rb HR GA a) : ∀ k, HR k → ¬ GA k := by
  obtain ⟨xb, yb, cx, cy, rd, h, ok⟩ := h
  exact h.dis
/-- the program's array behind what the document's has done -/
theorem ArAt.other {ab : Nat} {a' : ArS} (h : ArAt w ab GA a') (hd : ∀ k, HR k → ¬ GA k) (t : TurnG HR w w') : ArAt w' ab GA a' :=
  h.keep (fun k hk => t.block k (h.lt k hk) (fun e => hd k e hk)) t.size
/-- a disk of the document's array was changed -/
theorem RaM.disk (h : RaM w rb xb yb cx cy rd HR GA a) {i : Nat} (hi : i < a.D.length) {d' : DkS} (hD : RefAt w' (rd i) (fun k => HR k ∨ GA k) d') (t : TurnG (fun k => k = rd i) w w') :
    RaM w' rb xb yb cx cy rd HR GA { a with D := a.D.set i d' } := by
  have l := h.lt rb h.hr
  have lx := h.lt xb h.hx
  have ly := h.lt yb h.hy
  obtain ⟨o1, o2, o3⟩ := h.off i hi
  have nr : ¬ rb = rd i := fun e => o1 e.symm
  have nx : ¬ xb = rd i := fun e => o2 e.symm
  have ny : ¬ yb = rd i := fun e => o3 e.symm
  have hl : (a.D.set i d').length = a.D.length := by simp
  have up : ∀ k, HR k ∨ GA k → k < w.heap.size := fun k hk => hk.elim (h.lt k) (h.lg k)
  refine ⟨?_, ?_, (t.cell (p := ⟨rb, 2, none⟩) l nr).trans h.c2, (t.cell (p := ⟨rb, 3, none⟩) l nr).trans h.c3, (t.frozen (p := ⟨rb, 2, none⟩) l nr).trans h.f2, (t.frozen (p := ⟨rb, 3, none⟩) l nr).trans h.f3,
   fun j hj => (t.cell (p := ⟨xb, j, none⟩) lx nx).trans (h.x j (hl ▸ hj)), fun j hj => (t.cell (p := ⟨yb, j, none⟩) ly ny).trans (h.y j (hl ▸ hj)), fun j hj => (t.frozen (p := ⟨yb, j, none⟩) ly ny).trans (h.fy j (hl ▸ hj)), fun j hj => ?_,
   fun j k hj hk => h.inj j k (hl ▸ hj) (hl ▸ hk), fun j hj => h.off j (hl ▸ hj), h.rx, h.ry, h.xy, h.hr, h.hx, h.hy, fun j hj => h.hd j (hl ▸ hj), h.dis, fun k hk => Nat.lt_of_lt_of_le (h.lt k hk) t.size, fun k hk => Nat.lt_of_lt_of_le (h.lg k hk) t.size, ?_, ?_, ?_, h.wl⟩
  · show _ = some (Value.slice _ (a.D.set i d').length _)
    rw [hl]; exact (t.cell (p := ⟨rb, 0, none⟩) l nr).trans h.c0
  · show _ = some (Value.slice _ (a.D.set i d').length _)
    rw [hl]; exact (t.cell (p := ⟨rb, 1, none⟩) l nr).trans h.c1
  · have hj2 : j < a.D.length := hl ▸ hj
    show RefAt w' (rd j) _ ((a.D.set i d').getD j default)
    rw [getD_set hi]
    by_cases e : j = i
    · subst e
      rw [if_pos rfl]
      exact hD
    · rw [if_neg e]
      refine (h.dk j hj2).grewH (Grew.of_turn t) (fun k hk => ?_) (fun e2 => e (h.inj j i hj2 hi e2)) (fun k hk => Or.inl hk) (Or.inl (h.hd j hj2)) (fun k hk => Nat.lt_of_lt_of_le (up k hk) t.size)
      have : k = rd i := hk
      rw [this]
      exact Or.inl (h.hd i hi)
  · show 1 ≤ (a.D.set i d').length
    rw [hl]; exact h.d1
  · show (a.D.set i d').length ≤ 32
    rw [hl]; exact h.d2
  · show a.B.length = (a.D.set i d').length
    rw [hl]; exact h.b
theorem RaM.turnD (h : RaM w rb xb yb cx cy rd HR GA a) {i : Nat} (hi : i < a.D.length) (t : TurnG (fun k => k = rd i) w w') : TurnG HR w w' :=
  ⟨t.os, t.tape, t.output, t.size, fun k hk hn => t.block k hk (fun e => hn (by have e2 : k = rd i := e; rw [e2]; exact h.hd i hi))⟩
/-- a cell of the document's array's own is written -/
theorem RaM.own (h : RaM w rb xb yb cx cy rd HR GA a) {g j : Nat} {v : Value} (hg : g = rb ∨ g = yb) {i : Nat} (hi : i < a.D.length) : RefAt (w.setCell ⟨g, j, none⟩ v) (rd i) (fun k => HR k ∨ GA k) (a.D.getD i default) := by
  have t : TurnG (fun k => k = g) w (w.setCell ⟨g, j, none⟩ v) := setCell_turnG rfl
  obtain ⟨o1, o2, o3⟩ := h.off i hi
  have up : ∀ k, HR k ∨ GA k → k < w.heap.size := fun k hk => hk.elim (h.lt k) (h.lg k)
  refine (h.dk i hi).grewH (Grew.of_turn t) (fun k hk => ?_) (fun e => ?_) (fun k hk => Or.inl hk) (Or.inl (h.hd i hi)) (fun k hk => Nat.lt_of_lt_of_le (up k hk) t.size)
  · have : k = g := hk
    rw [this]
    rcases hg with e | e
    · rw [e]; exact Or.inl h.hr
    · rw [e]; exact Or.inl h.hy
  · have e2 : rd i = g := e
    rcases hg with e3 | e3
    · exact o1 (e2.trans e3)
    · exact o3 (e2.trans e3)
theorem RaM.setLeft (h : RaM w rb xb yb cx cy rd HR GA a) {l : Int} (hl : (Lit.int .i64 l).wf = true) : RaM (w.setCell ⟨rb, 2, none⟩ (.int .i64 l)) rb xb yb cx cy rd HR GA { a with left := l } := by
  have hb : ∀ k, k ≠ rb → (w.setCell ⟨rb, 2, none⟩ (.int .i64 l)).heap[k]? = w.heap[k]? := fun k hk => Below.heap_setCell w ⟨rb, 2, none⟩ _ k hk
  have hx := hb xb h.rx.symm
  have hy := hb yb h.ry.symm
  refine ⟨(cell_set_ne w _ (by decide)).trans h.c0, (cell_set_ne w _ (by decide)).trans h.c1, cell_set_eq _ h.c2, (cell_set_ne w _ (by decide)).trans h.c3, (frozen_set w _).trans h.f2, (frozen_set w _).trans h.f3,
   fun i hi => (World.cell?_of_block (w := w) hx).trans (h.x i hi), fun i hi => (World.cell?_of_block (w := w) hy).trans (h.y i hi), fun i hi => (World.frozen?_of_block (w := w) hy).trans (h.fy i hi), fun i hi => h.own (Or.inl rfl) hi,
   h.inj, h.off, h.rx, h.ry, h.xy, h.hr, h.hx, h.hy, h.hd, h.dis, fun k hk => by simpa using h.lt k hk, fun k hk => by simpa using h.lg k hk, h.d1, h.d2, h.b, hl⟩
theorem RaM.setOff (h : RaM w rb xb yb cx cy rd HR GA a) (z : Bool) : RaM (w.setCell ⟨rb, 3, none⟩ (.bool z)) rb xb yb cx cy rd HR GA { a with off := z } := by
  have hb : ∀ k, k ≠ rb → (w.setCell ⟨rb, 3, none⟩ (.bool z)).heap[k]? = w.heap[k]? := fun k hk => Below.heap_setCell w ⟨rb, 3, none⟩ _ k hk
  have hx := hb xb h.rx.symm
  have hy := hb yb h.ry.symm
  refine ⟨(cell_set_ne w _ (by decide)).trans h.c0, (cell_set_ne w _ (by decide)).trans h.c1, (cell_set_ne w _ (by decide)).trans h.c2, cell_set_eq _ h.c3, (frozen_set w _).trans h.f2, (frozen_set w _).trans h.f3,
   fun i hi => (World.cell?_of_block (w := w) hx).trans (h.x i hi), fun i hi => (World.cell?_of_block (w := w) hy).trans (h.y i hi), fun i hi => (World.frozen?_of_block (w := w) hy).trans (h.fy i hi), fun i hi => h.own (Or.inl rfl) hi,
   h.inj, h.off, h.rx, h.ry, h.xy, h.hr, h.hx, h.hy, h.hd, h.dis, fun k hk => by simpa using h.lt k hk, fun k hk => by simpa using h.lg k hk, h.d1, h.d2, h.b, h.wl⟩
theorem RaM.setBorn (h : RaM w rb xb yb cx cy rd HR GA a) {i : Nat} (hi : i < a.D.length) (z : Int) : RaM (w.setCell ⟨yb, i, none⟩ (.int .i64 z)) rb xb yb cx cy rd HR GA { a with B := a.B.set i z } := by
  have hb : ∀ k, k ≠ yb → (w.setCell ⟨yb, i, none⟩ (.int .i64 z)).heap[k]? = w.heap[k]? := fun k hk => Below.heap_setCell w ⟨yb, i, none⟩ _ k hk
  have hx := hb xb h.xy
  have hr := hb rb h.ry
  have hB : i < a.B.length := by rw [h.b]; exact hi
  refine ⟨(World.cell?_of_block (w := w) hr).trans h.c0, (World.cell?_of_block (w := w) hr).trans h.c1, (World.cell?_of_block (w := w) hr).trans h.c2, (World.cell?_of_block (w := w) hr).trans h.c3, (World.frozen?_of_block (w := w) hr).trans h.f2, (World.frozen?_of_block (w := w) hr).trans h.f3,
   fun j hj => (World.cell?_of_block (w := w) hx).trans (h.x j hj), fun j hj => ?_, fun j hj => (frozen_set w _).trans (h.fy j hj), fun j hj => h.own (Or.inr rfl) hj,
   h.inj, h.off, h.rx, h.ry, h.xy, h.hr, h.hx, h.hy, h.hd, h.dis, fun k hk => by simpa using h.lt k hk, fun k hk => by simpa using h.lg k hk, h.d1, h.d2, ?_, h.wl⟩
  · show _ = some (Value.int .i64 ((a.B.set i z).getD j 0))
    rw [getD_set hB]
    by_cases e : j = i
    · subst e
      rw [if_pos rfl]
      exact cell_set_eq _ (h.y j hj)
    · rw [if_neg e, cell_set_ne w _ e]; exact h.y j hj
  · show (a.B.set i z).length = _
    simp; exact h.b
end
end Go.Proofs.YtgahaebfgmbckaaGreat.Gf
