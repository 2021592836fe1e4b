/- TEXTS JOINED: ArNew, ArAwN. -/
import Derived.Deep.OwnRows
import Derived.Test.YtclieefpnbdbjaaGreatRome12
import Derived.Test.YtclieefpnbdbjaaGreatRome11
namespace Go.Proofs.YtclieefpnbdbjaaGreat.Gf
set_option linter.unusedVariables false
set_option linter.unusedSimpArgs false
open Go.RowKit
theorem info_member : (Tryz.prog.info? 84).map (fun i => (i.zero, i.size, i.bytes)) = some (some (.agg #[.pointer none, .int .i64 0]), 2, 16) := by kernel_rfl
/-- a row of members that are not yet -/
theorem run_make_members (n : Nat) (hn : n ≤ 32) (w : World) : (Instr.makeSlice 77 (.int .i64 (n : Int)) (.int .i64 (n : Int))).run Tryz.prog w = .ok (.slice (some ⟨w.heap.size, 0, none⟩) n n) (w.alloc (.cells (madeCells #[.pointer none, .int .i64 0] (n * 2)) 84)) := by
  obtain ⟨i, hi, hzz⟩ := Option.map_eq_some_iff.1 info_member
  simp only [Prod.mk.injEq] at hzz
  obtain ⟨hz, hs, hb⟩ := hzz
  have hr := run_make (P := Tryz.prog) w 77 84 i _ Tryz.underlying77 hi hz .i64 .i64 n n (by omega) (Int.le_refl _) (by rw [hb]; omega) (by omega)
  simp only [Int.toNat_natCast, hs] at hr
  exact hr
/-- a row of members, the first k of which have disks -/
def nfR (db : Nat → Nat) (k : Nat) (j : Nat) : Value := if j % 2 = 0 then (if j / 2 < k then .pointer (some ⟨db (j / 2), 0, none⟩) else .pointer none) else .int .i64 0
def faR (mb n : Nat) (j : Nat) : Value := if j = 0 then .slice (some ⟨mb, 0, none⟩) n n else if j = 1 then .int .i64 0 else .bool false
structure NewI (w wr : World) (ab mb n k s : Nat) (db : Nat → Nat) (GD : Nat → Nat → Prop) : Prop where
  b : Below w.heap.size w wr
  la : w.heap.size ≤ ab
  lm : w.heap.size ≤ mb
  ne : ab ≠ mb
  ra : wr.rowIs ab 79 3 (faR mb n)
  rm : wr.rowIs mb 84 (n * 2) (nfR db k)
  dk : ∀ i, i < k → DiskAt wr (db i) (GD i) (newD s)
  sep : ∀ i j, i < k → j < k → i ≠ j → ∀ x, GD i x → ¬ GD j x
  up : ∀ i, i < k → ∀ x, GD i x → x ≠ ab ∧ x ≠ mb ∧ w.heap.size ≤ x
section
variable {w wr w1 : World} {ab mb n k s : Nat} {db : Nat → Nat} {GD : Nat → Nat → Prop}
theorem NewI.step (h : NewI w wr ab mb n k s db GD) (hk : k < n) {d : Nat} {G : Nat → Prop} (hD : DiskAt w1 d G (newD s)) (hG : ∀ x, G x → wr.heap.size ≤ x) (hb : Below wr.heap.size wr w1) :
    NewI w (w1.setCell ⟨mb, k * 2, none⟩ (.pointer (some ⟨d, 0, none⟩))) ab mb n (k + 1) s (fun i => if i = k then d else db i) (fun i => if i = k then G else GD i) := by
  have lm := h.rm.lt
  have la := h.ra.lt
  have kb : ∀ x, x ≠ mb → (w1.setCell ⟨mb, k * 2, none⟩ (.pointer (some ⟨d, 0, none⟩))).heap[x]? = w1.heap[x]? := fun x hx => Below.heap_setCell w1 ⟨mb, k * 2, none⟩ _ x hx
  refine ⟨(h.b.trans (hb.mono h.b.size)).setCell h.lm _, h.la, h.lm, h.ne, ?_, ?_, ?_, ?_, ?_⟩
  · exact (h.ra.of_block (hb.block ab la)).setOther h.ne _
  · refine ((h.rm.of_block (hb.block mb lm)).set (k * 2) (.pointer (some ⟨d, 0, none⟩))).congr fun j hj => ?_
    unfold nfR
    by_cases e : j = k * 2
    · subst e
      rw [if_pos rfl, if_pos (by omega), if_pos (by omega)]
      show _ = Value.pointer (some ⟨if k * 2 / 2 = k then d else db (k * 2 / 2), 0, none⟩)
      rw [if_pos (by omega)]
    · rw [if_neg e]
      by_cases e1 : j % 2 = 0
      · rw [if_pos e1, if_pos e1]
        by_cases e2 : j / 2 < k
        · rw [if_pos e2, if_pos (by omega)]
          show _ = Value.pointer (some ⟨if j / 2 = k then d else db (j / 2), 0, none⟩)
          rw [if_neg (by omega)]
        · rw [if_neg e2, if_neg (by omega)]
      · rw [if_neg e1, if_neg e1]
  · intro i hi
    show DiskAt _ (if i = k then d else db i) (if i = k then G else GD i) _
    by_cases e : i = k
    · rw [if_pos e, if_pos e]
      exact hD.keep (fun x hx => kb x (fun e2 => by have := hG x hx; omega)) (by simp)
    · rw [if_neg e, if_neg e]
      have h1 := (h.dk i (by omega)).below hb
      exact h1.keep (fun x hx => kb x (h.up i (by omega) x hx).2.1) (by simp)
  · intro i j hi hj hne x hx hx2
    replace hx : (if i = k then G else GD i) x := hx
    replace hx2 : (if j = k then G else GD j) x := hx2
    by_cases e : i = k
    · rw [if_pos e] at hx
      rw [if_neg (by omega)] at hx2
      have h1 := hG x hx
      have h2 := (h.dk j (by omega)).lt x hx2
      omega
    · rw [if_neg e] at hx
      by_cases e2 : j = k
      · rw [if_pos e2] at hx2
        have h1 := hG x hx2
        have h2 := (h.dk i (by omega)).lt x hx
        omega
      · rw [if_neg e2] at hx2
        exact h.sep i j (by omega) (by omega) hne x hx hx2
  · intro i hi x hx
    replace hx : (if i = k then G else GD i) x := hx
    by_cases e : i = k
    · rw [if_pos e] at hx
      have h1 := hG x hx
      have h2 := h.b.size
      exact ⟨by omega, by omega, by omega⟩
    · rw [if_neg e] at hx
      exact h.up i (by omega) x hx
theorem rep_getD {α : Type} {n i : Nat} {x d : α} (h : i < n) : (List.replicate n x).getD i d = x := by simp [List.getD, h]
theorem NewI.done (h : NewI w wr ab mb n n s db GD) (h1 : 1 ≤ n) (h2 : n ≤ 32) (h3 : 1 ≤ s) (h4 : s ≤ 4096) : ArAt wr ab (fun x => x = ab ∨ x = mb ∨ ∃ i, i < n ∧ GD i x) (newA n s) := by
  have hl : (newA n s).D.length = n := by simp [newA]
  refine ⟨mb, db, GD, ⟨?_, h.ra.cell (i := 1) (by omega), h.ra.cell (i := 2) (by omega), h.ra.frozen 1, h.ra.frozen 2, fun i hi => ?_, fun i hi => ?_, fun i hi => h.rm.frozen _, fun i hi => ?_, fun i j hi hj => h.sep i j (hl ▸ hi) (hl ▸ hj), fun i hi => ⟨fun e => (h.up i (hl ▸ hi) _ e).1 rfl, fun e => (h.up i (hl ▸ hi) _ e).2.1 rfl⟩, h.ne, Or.inl rfl, Or.inr (Or.inl rfl), fun i hi x hx => Or.inr (Or.inr ⟨i, hl ▸ hi, hx⟩), fun x hx => ?_, by rw [hl]; exact h1, by rw [hl]; exact h2, by simp [newA], by simp [newA]; decide⟩, newA_ok h1 h2 h3 h4⟩
  · rw [hl]; exact h.ra.cell (i := 0) (by omega)
  · rw [hl] at hi
    rw [h.rm.cell (by omega)]
    unfold nfR
    rw [if_pos (by omega), if_pos (by omega), show i * 2 / 2 = i by omega]
  · rw [hl] at hi
    rw [h.rm.cell (by omega)]
    unfold nfR
    rw [if_neg (by omega)]
    simp only [newA]
    rw [rep_getD hi]
  · rw [hl] at hi
    simp only [newA]
    rw [rep_getD hi]
    exact h.dk i hi
  · rcases hx with h5 | h5 | ⟨i, hi, h5⟩
    · rw [h5]; exact h.ra.lt
    · rw [h5]; exact h.rm.lt
    · exact (h.dk i hi).lt x h5
end
/-- a new array -/
def NewsA (w : World) (n s : Nat) (e : Ending) (w' : World) : Prop := ∃ ab GA, e = .returned (.tuple #[.pointer (some ⟨ab, 0, none⟩), .int .i64 0]) ∧ ArAt w' ab GA (newA n s) ∧ (∀ k, GA k → w.heap.size ≤ k) ∧ Below w.heap.size w w'
theorem made_two (w : World) (n : Nat) (t : TypeId) : (w.alloc (.cells (madeCells #[.pointer none, .int .i64 0] (n * 2)) t)).rowIs w.heap.size t (n * 2) (nfR (fun _ => 0) 0) := by
  have hs : (madeCells #[Value.pointer none, .int .i64 0] (n * 2)).size = n * 2 := size_madeCells _ _
  have h := World.rowIs_alloc w (madeCells #[.pointer none, .int .i64 0] (n * 2)) t (nfR (fun _ => 0) 0) (fun i hi => by
    rw [hs] at hi
    unfold nfR
    rcases Nat.mod_two_eq_zero_or_one i with e | e <;> simp [madeCells, hi, e])
  rw [hs] at h
  exact h
/-- the members of a new array, laid -/
theorem laid_u (w : World) (n : Nat) (h2 : n ≤ 32) : ∃ u, (Instr.makeSlice 77 (.int .i64 (n : Int)) (.int .i64 (n : Int))).run Tryz.prog w = .ok (.slice (some ⟨w.heap.size, 0, none⟩) n n) u ∧ u.rowIs w.heap.size 84 (n * 2) (nfR (fun _ => 0) 0) ∧ Below w.heap.size w u ∧ u.heap.size = w.heap.size + 1 :=
  ⟨_, run_make_members n h2 w, made_two _ _ _, belA _ _, by simp⟩
theorem laid_a (u : World) (g n : Nat) : (u.alloc (.cells #[.slice (some ⟨g, 0, none⟩) n n, .int .i64 0, .bool false] 79)).rowIs u.heap.size 79 3 (faR g n) :=
  World.rowIs_alloc u #[.slice (some ⟨g, 0, none⟩) n n, .int .i64 0, .bool false] 79 (faR g n) (fun i hi => by
    have hi2 : i < 3 := hi
    match i, hi2 with
    | 0, _ => rfl
    | 1, _ => rfl
    | 2, _ => rfl)
set_option maxRecDepth 100000 in
theorem anew_any {w : World} {n : Nat} {s : Int} (h1 : 1 ≤ n) (h2 : n ≤ 32) (h3 : 1 ≤ s) (h4 : s ≤ 4096) : Calls Tryz.prog 9 #[.int .i64 (n : Int), .int .i64 s] w (NewsA w n s.toNat) := by
  have q1 : ¬ (n : Int) < 1 := by omega
  have q2 : ¬ (n : Int) > 32 := by omega
  obtain ⟨u, mk1, hr, hb, hs⟩ := laid_u w n h2
  obtain ⟨g, hg⟩ : ∃ g, Hid (g = w.heap.size) := ⟨_, rfl⟩
  rw [← hg.out] at mk1 hr
  have hs' : Hid (u.heap.size = w.heap.size + 1) := hs
  have LA := laid_a u g n
  have START : Hid (∃ db GD, NewI w (u.alloc (.cells #[.slice (some ⟨g, 0, none⟩) n n, .int .i64 0, .bool false] 79)) u.heap.size g n 0 s.toNat db GD) :=
    ⟨fun _ => 0, fun _ _ => False, (hb.alloc (by have := hb.size; omega) _), by omega, by rw [hg.out]; exact Nat.le_refl _, by rw [hg.out]; omega, LA, hr.alloc _, fun i hi => absurd hi (Nat.not_lt_zero _), fun i j hi => absurd hi (Nat.not_lt_zero _), fun i hi => absurd hi (Nat.not_lt_zero _)⟩
  have c0 := LA.cell (i := 0) (by omega)
  simp only [faR, if_true] at c0
  clear hs LA hb hr
  go_enter Tryz.func9, Tryz.ntmps9
  go_wp2
  obtain ⟨ab, hab⟩ : ∃ ab, Hid (ab = u.heap.size) := ⟨_, rfl⟩
  rw [← hab.out] at START ⊢
  go_loopw [25] (fun i wr => ∃ k : Nat, k ≤ n ∧ i = .int .i64 (k : Int) ∧ ∃ db GD, NewI w wr ab g n k s.toNat db GD) (fun i _ => n - (intOf i).toNat)
  case atStart => exact ⟨0, Nat.zero_le _, rfl, START.out⟩
  case round =>
    clear START
    obtain ⟨k, hk, rfl, db, GD, hN⟩ := hrel
    by_cases hlt : k < n
    · have hlt' : (k : Int) < (n : Int) := by omega
      have g1 : IntKind.i64.wrap ((k : Int) + 1) = ((k + 1 : Nat) : Int) := by rw [IntKind.wrap_i64]; omega
      go_wp2_with fail
      refine (dmake_any h3 h4).mono ?_
      rintro _ w1 ⟨d, G, rfl, D1, H1, B1⟩
      have c1 : w1.cell? ⟨ab, 0, none⟩ = some (.slice (some ⟨g, 0, none⟩) n n) := (B1.cell (p := ⟨ab, 0, none⟩) hN.ra.lt).trans (hN.ra.cell (i := 0) (by omega))
      have R1 := hN.rm.of_block (B1.block g hN.rm.lt)
      have c2 := R1.cell (i := k * 2) (by omega)
      have f2 := R1.frozen (k * 2)
      have E2 : Hid (∃ db GD, NewI w (w1.setCell ⟨g, k * 2, none⟩ (.pointer (some ⟨d, 0, none⟩))) ab g n (k + 1) s.toNat db GD) := ⟨_, _, hN.step hlt D1 H1 B1⟩
      clear hN D1 H1 B1 R1
      go_wp2
      go_roundw
      case rel => exact ⟨k + 1, by omega, by go_num, E2.out⟩
      case measure => simp [intOf]; omega
    · have hlt' : ¬ (k : Int) < (n : Int) := by omega
      have hkn : k = n := by omega
      rw [hkn] at hN
      have FIN : Hid (∃ GA, ArAt wr ab GA (newA n s.toNat) ∧ (∀ k, GA k → w.heap.size ≤ k) ∧ Below w.heap.size w wr) := ⟨_, hN.done h1 h2 (by omega) (by omega), fun x hx => by
        rcases hx with h5 | h5 | ⟨i, hi, h5⟩
        · rw [h5]; exact hN.la
        · rw [h5]; exact hN.lm
        · exact (hN.up i hi x h5).2.2, hN.b⟩
      clear hN
      go_wp2
      refine bodyPost_ret (v := .tuple #[.pointer (some ⟨ab, 0, none⟩), .int .i64 0]) (by simp [results, Tryz.results9, go_sem]) rfl ?_
      obtain ⟨GA, r⟩ := FIN.out
      exact ⟨ab, GA, rfl, r⟩
end Go.Proofs.YtclieefpnbdbjaaGreat.Gf

namespace Go.Proofs.YtclieefpnbdbjaaGreat.Gf
set_option linter.unusedVariables false
set_option linter.unusedSimpArgs false
open Go.RowKit
section
variable {w w' : World} {ab N : Nat} {GA GA' : Nat → Prop} {a a' : ArS}
/-- an array and the least number of its blocks -/
structure ArB (w : World) (N : Nat) (ab : Nat) (GA : Nat → Prop) (a : ArS) : Prop where
  at_ : ArAt w ab GA a
  low : ∀ k, GA k → N ≤ k
  size : N ≤ w.heap.size
theorem ArB.below (h : ArB w N ab GA a) (hb : Below w.heap.size w w') : ArB w' N ab GA a := ⟨h.at_.below hb, h.low, Nat.le_trans h.size hb.size⟩
theorem ArB.grew (h : ArB w N ab GA a) (hd : ArAt w' ab GA' a') (g : Grew GA w GA' w') : ArB w' N ab GA' a' := ⟨hd, g.base h.low h.size, Nat.le_trans h.size g.turn.size⟩
theorem ArB.bel (h : ArB w N ab GA a) (g : Grew GA w GA' w') : Below N w w' := g.below h.low h.size
end
section
variable {w : World} {ab : Nat} {GA : Nat → Prop} {a : ArS}
theorem anew_is {w : World} {n s : Int} {m : Nat} (e : n = (m : Int)) (h1 : 1 ≤ m) (h2 : m ≤ 32) (h3 : 1 ≤ s) (h4 : s ≤ 4096) {k : Nat} (hs : s.toNat = k) : Calls Tryz.prog 9 #[.int .i64 n, .int .i64 s] w (NewsA w m k) := by
  subst e hs
  exact anew_any h1 h2 h3 h4
end
end Go.Proofs.YtclieefpnbdbjaaGreat.Gf
