/- TEXTS JOINED: ArNew, ArAw, ArLL, ArRC, ArRN. -/
import Derived.Test.YtpijncnpicgjeaaTome9
import Derived.Test.YtpijncnpicgjeaaTome5
import Derived.Deep.RegionLaw
/-
  THE PROGRAM's ARRAY BY CONTRACT (package array): New.
-/

namespace Go.Proofs.Ytpijncnpicgjeaa.Gf
set_option linter.unusedVariables false
set_option linter.unusedSimpArgs false
open Go.RowKit

theorem info_member : (Try.prog.info? 69).map (fun i => (i.zero, i.size, i.bytes)) = some (some (.agg #[.pointer none, .int .i64 0]), 2, 16) := by kernel_rfl
/-- a row of members that are not yet -/
theorem run_make_members (n : Nat) (hn : n ≤ 32) (w : World) : (Instr.makeSlice 62 (.int .i64 (n : Int)) (.int .i64 (n : Int))).run Try.prog w = .ok (.slice (some ⟨w.heap.size, 0, none⟩) n n) (w.alloc (.cells (madeCells #[.pointer none, .int .i64 0] (n * 2)) 69)) := by
  obtain ⟨i, hi, hzz⟩ := Option.map_eq_some_iff.1 info_member
  simp only [Prod.mk.injEq] at hzz
  obtain ⟨hz, hs, hb⟩ := hzz
  have hr := run_make (P := Try.prog) w 62 69 i _ Try.underlying62 hi hz .i64 .i64 n n (by omega) (Int.le_refl _) (by rw [hb]; omega) (by omega)
  simp only [Int.toNat_natCast, hs] at hr
  exact hr
/-- a row of members, the first k of which have disks -/
def nfR (db : Nat → Nat) (k : Nat) (j : Nat) : Value := if j % 2 = 0 then (if j / 2 < k then .pointer (some ⟨db (j / 2), 0, none⟩) else .pointer none) else .int .i64 0
def faR (mb n : Nat) (j : Nat) : Value := if j = 0 then .slice (some ⟨mb, 0, none⟩) n n else if j = 1 then .int .i64 0 else .bool false
structure NewI (w wr : World) (ab mb n k s : Nat) (db : Nat → Nat) (GD : Nat → Nat → Prop) : Prop where
  b : Below w.heap.size w wr
  la : w.heap.size ≤ ab
  lm : w.heap.size ≤ mb
  ne : ab ≠ mb
  ra : wr.rowIs ab 64 3 (faR mb n)
  rm : wr.rowIs mb 69 (n * 2) (nfR db k)
  dk : ∀ i, i < k → DiskAt wr (db i) (GD i) (newD s)
  sep : ∀ i j, i < k → j < k → i ≠ j → ∀ x, GD i x → ¬ GD j x
  up : ∀ i, i < k → ∀ x, GD i x → x ≠ ab ∧ x ≠ mb ∧ w.heap.size ≤ x
section
variable {w wr w1 : World} {ab mb n k s : Nat} {db : Nat → Nat} {GD : Nat → Nat → Prop}
theorem NewI.step (h : NewI w wr ab mb n k s db GD) (hk : k < n) {d : Nat} {G : Nat → Prop} (hD : DiskAt w1 d G (newD s)) (hG : ∀ x, G x → wr.heap.size ≤ x) (hb : Below wr.heap.size wr w1) :
    NewI w (w1.setCell ⟨mb, k * 2, none⟩ (.pointer (some ⟨d, 0, none⟩))) ab mb n (k + 1) s (fun i => if i = k then d else db i) (fun i => if i = k then G else GD i) := by
  have lm := h.rm.lt
  have la := h.ra.lt
  have kb : ∀ x, x ≠ mb → (w1.setCell ⟨mb, k * 2, none⟩ (.pointer (some ⟨d, 0, none⟩))).heap[x]? = w1.heap[x]? := fun x hx => Below.heap_setCell w1 ⟨mb, k * 2, none⟩ _ x hx
  refine ⟨(h.b.trans (hb.mono h.b.size)).setCell h.lm _, h.la, h.lm, h.ne, ?_, ?_, ?_, ?_, ?_⟩
  · exact (h.ra.of_block (hb.block ab la)).setOther h.ne _
  · refine ((h.rm.of_block (hb.block mb lm)).set (k * 2) (.pointer (some ⟨d, 0, none⟩))).congr fun j hj => ?_
    unfold nfR
    by_cases e : j = k * 2
    · subst e
      rw [if_pos rfl, if_pos (by omega), if_pos (by omega)]
      show _ = Value.pointer (some ⟨if k * 2 / 2 = k then d else db (k * 2 / 2), 0, none⟩)
      rw [if_pos (by omega)]
    · rw [if_neg e]
      by_cases e1 : j % 2 = 0
      · rw [if_pos e1, if_pos e1]
        by_cases e2 : j / 2 < k
        · rw [if_pos e2, if_pos (by omega)]
          show _ = Value.pointer (some ⟨if j / 2 = k then d else db (j / 2), 0, none⟩)
          rw [if_neg (by omega)]
        · rw [if_neg e2, if_neg (by omega)]
      · rw [if_neg e1, if_neg e1]
  · intro i hi
    show DiskAt _ (if i = k then d else db i) (if i = k then G else GD i) _
    by_cases e : i = k
    · rw [if_pos e, if_pos e]
      exact hD.keep (fun x hx => kb x (fun e2 => by have := hG x hx; omega)) (by simp)
    · rw [if_neg e, if_neg e]
      have h1 := (h.dk i (by omega)).below hb
      exact h1.keep (fun x hx => kb x (h.up i (by omega) x hx).2.1) (by simp)
  · intro i j hi hj hne x hx hx2
    replace hx : (if i = k then G else GD i) x := hx
    replace hx2 : (if j = k then G else GD j) x := hx2
    by_cases e : i = k
    · rw [if_pos e] at hx
      rw [if_neg (by omega)] at hx2
      have h1 := hG x hx
      have h2 := (h.dk j (by omega)).lt x hx2
      omega
    · rw [if_neg e] at hx
      by_cases e2 : j = k
      · rw [if_pos e2] at hx2
        have h1 := hG x hx2
        have h2 := (h.dk i (by omega)).lt x hx
        omega
      · rw [if_neg e2] at hx2
        exact h.sep i j (by omega) (by omega) hne x hx hx2
  · intro i hi x hx
    replace hx : (if i = k then G else GD i) x := hx
    by_cases e : i = k
    · rw [if_pos e] at hx
      have h1 := hG x hx
      have h2 := h.b.size
      exact ⟨by omega, by omega, by omega⟩
    · rw [if_neg e] at hx
      exact h.up i (by omega) x hx
theorem rep_getD {α : Type} {n i : Nat} {x d : α} (h : i < n) : (List.replicate n x).getD i d = x := by simp [List.getD, h]
theorem NewI.done (h : NewI w wr ab mb n n s db GD) (h1 : 1 ≤ n) (h2 : n ≤ 32) (h3 : 1 ≤ s) (h4 : s ≤ 4096) : ArAt wr ab (fun x => x = ab ∨ x = mb ∨ ∃ i, i < n ∧ GD i x) (newA n s) := by
  have hl : (newA n s).D.length = n := by simp [newA]
  refine ⟨mb, db, GD, ⟨?_, h.ra.cell (i := 1) (by omega), h.ra.cell (i := 2) (by omega), h.ra.frozen 1, h.ra.frozen 2, fun i hi => ?_, fun i hi => ?_, fun i hi => h.rm.frozen _, fun i hi => ?_, fun i j hi hj => h.sep i j (hl ▸ hi) (hl ▸ hj), fun i hi => ⟨fun e => (h.up i (hl ▸ hi) _ e).1 rfl, fun e => (h.up i (hl ▸ hi) _ e).2.1 rfl⟩, h.ne, Or.inl rfl, Or.inr (Or.inl rfl), fun i hi x hx => Or.inr (Or.inr ⟨i, hl ▸ hi, hx⟩), fun x hx => ?_, by rw [hl]; exact h1, by rw [hl]; exact h2, by simp [newA], by simp [newA]; decide⟩, newA_ok h1 h2 h3 h4⟩
  · rw [hl]; exact h.ra.cell (i := 0) (by omega)
  · rw [hl] at hi
    rw [h.rm.cell (by omega)]
    unfold nfR
    rw [if_pos (by omega), if_pos (by omega), show i * 2 / 2 = i by omega]
  · rw [hl] at hi
    rw [h.rm.cell (by omega)]
    unfold nfR
    rw [if_neg (by omega)]
    simp only [newA]
    rw [rep_getD hi]
  · rw [hl] at hi
    simp only [newA]
    rw [rep_getD hi]
    exact h.dk i hi
  · rcases hx with h5 | h5 | ⟨i, hi, h5⟩
    · rw [h5]; exact h.ra.lt
    · rw [h5]; exact h.rm.lt
    · exact (h.dk i hi).lt x h5
end
theorem anew_bad {w : World} {n s : Int} (h : ¬ (1 ≤ n ∧ n ≤ 32)) : Calls Try.prog 10 #[.int .i64 n, .int .i64 s] w fun e w' => e = .returned (.tuple #[.pointer none, .int .i64 1]) ∧ w' = w := by
  by_cases h1 : n < 1
  · go_enter Try.func10, Try.ntmps10
    go_wp2
    refine bodyPost_ret (v := .tuple #[.pointer none, .int .i64 1]) (by simp [results, Try.results10, go_sem]) rfl ?_
    exact ⟨rfl, rfl⟩
  · have h2 : n > 32 := by omega
    go_enter Try.func10, Try.ntmps10
    go_wp2
    refine bodyPost_ret (v := .tuple #[.pointer none, .int .i64 1]) (by simp [results, Try.results10, go_sem]) rfl ?_
    exact ⟨rfl, rfl⟩
/-- a new array -/
def NewsA (w : World) (n s : Nat) (e : Ending) (w' : World) : Prop := ∃ ab GA, e = .returned (.tuple #[.pointer (some ⟨ab, 0, none⟩), .int .i64 0]) ∧ ArAt w' ab GA (newA n s) ∧ (∀ k, GA k → w.heap.size ≤ k) ∧ Below w.heap.size w w'
theorem made_two (w : World) (n : Nat) (t : TypeId) : (w.alloc (.cells (madeCells #[.pointer none, .int .i64 0] (n * 2)) t)).rowIs w.heap.size t (n * 2) (nfR (fun _ => 0) 0) := by
  have hs : (madeCells #[Value.pointer none, .int .i64 0] (n * 2)).size = n * 2 := size_madeCells _ _
  have h := World.rowIs_alloc w (madeCells #[.pointer none, .int .i64 0] (n * 2)) t (nfR (fun _ => 0) 0) (fun i hi => by
    rw [hs] at hi
    unfold nfR
    rcases Nat.mod_two_eq_zero_or_one i with e | e <;> simp [madeCells, hi, e])
  rw [hs] at h
  exact h
/-- the members of a new array, laid -/
theorem laid_u (w : World) (n : Nat) (h2 : n ≤ 32) : ∃ u, (Instr.makeSlice 62 (.int .i64 (n : Int)) (.int .i64 (n : Int))).run Try.prog w = .ok (.slice (some ⟨w.heap.size, 0, none⟩) n n) u ∧ u.rowIs w.heap.size 69 (n * 2) (nfR (fun _ => 0) 0) ∧ Below w.heap.size w u ∧ u.heap.size = w.heap.size + 1 :=
  ⟨_, run_make_members n h2 w, made_two _ _ _, belA _ _, by simp⟩
theorem laid_a (u : World) (g n : Nat) : (u.alloc (.cells #[.slice (some ⟨g, 0, none⟩) n n, .int .i64 0, .bool false] 64)).rowIs u.heap.size 64 3 (faR g n) :=
  World.rowIs_alloc u #[.slice (some ⟨g, 0, none⟩) n n, .int .i64 0, .bool false] 64 (faR g n) (fun i hi => by
    have hi2 : i < 3 := hi
    match i, hi2 with
    | 0, _ => rfl
    | 1, _ => rfl
    | 2, _ => rfl)
set_option maxRecDepth 100000 in
theorem anew_any {w : World} {n : Nat} {s : Int} (h1 : 1 ≤ n) (h2 : n ≤ 32) (h3 : 1 ≤ s) (h4 : s ≤ 4096) : Calls Try.prog 10 #[.int .i64 (n : Int), .int .i64 s] w (NewsA w n s.toNat) := by
  have q1 : ¬ (n : Int) < 1 := by omega
  have q2 : ¬ (n : Int) > 32 := by omega
  obtain ⟨u, mk1, hr, hb, hs⟩ := laid_u w n h2
  obtain ⟨g, hg⟩ : ∃ g, Hid (g = w.heap.size) := ⟨_, rfl⟩
  rw [← hg.out] at mk1 hr
  have hs' : Hid (u.heap.size = w.heap.size + 1) := hs
  have LA := laid_a u g n
  have START : Hid (∃ db GD, NewI w (u.alloc (.cells #[.slice (some ⟨g, 0, none⟩) n n, .int .i64 0, .bool false] 64)) u.heap.size g n 0 s.toNat db GD) :=
    ⟨fun _ => 0, fun _ _ => False, (hb.alloc (by have := hb.size; omega) _), by omega, by rw [hg.out]; exact Nat.le_refl _, by rw [hg.out]; omega, LA, hr.alloc _, fun i hi => absurd hi (Nat.not_lt_zero _), fun i j hi => absurd hi (Nat.not_lt_zero _), fun i hi => absurd hi (Nat.not_lt_zero _)⟩
  have c0 := LA.cell (i := 0) (by omega)
  simp only [faR, if_true] at c0
  clear hs LA hb hr
  go_enter Try.func10, Try.ntmps10
  go_wp2
  obtain ⟨ab, hab⟩ : ∃ ab, Hid (ab = u.heap.size) := ⟨_, rfl⟩
  rw [← hab.out] at START ⊢
  go_loopw [25] (fun i wr => ∃ k : Nat, k ≤ n ∧ i = .int .i64 (k : Int) ∧ ∃ db GD, NewI w wr ab g n k s.toNat db GD) (fun i _ => n - (intOf i).toNat)
  case atStart => exact ⟨0, Nat.zero_le _, rfl, START.out⟩
  case round =>
    clear START
    obtain ⟨k, hk, rfl, db, GD, hN⟩ := hrel
    by_cases hlt : k < n
    · have hlt' : (k : Int) < (n : Int) := by omega
      have g1 : IntKind.i64.wrap ((k : Int) + 1) = ((k + 1 : Nat) : Int) := by rw [IntKind.wrap_i64]; omega
      go_wp2_with fail
      refine (dmake_any h3 h4).mono ?_
      rintro _ w1 ⟨d, G, rfl, D1, H1, B1⟩
      have c1 : w1.cell? ⟨ab, 0, none⟩ = some (.slice (some ⟨g, 0, none⟩) n n) := (B1.cell (p := ⟨ab, 0, none⟩) hN.ra.lt).trans (hN.ra.cell (i := 0) (by omega))
      have R1 := hN.rm.of_block (B1.block g hN.rm.lt)
      have c2 := R1.cell (i := k * 2) (by omega)
      have f2 := R1.frozen (k * 2)
      have E2 : Hid (∃ db GD, NewI w (w1.setCell ⟨g, k * 2, none⟩ (.pointer (some ⟨d, 0, none⟩))) ab g n (k + 1) s.toNat db GD) := ⟨_, _, hN.step hlt D1 H1 B1⟩
      clear hN D1 H1 B1 R1
      go_wp2
      go_roundw
      case rel => exact ⟨k + 1, by omega, by go_num, E2.out⟩
      case measure => simp [intOf]; omega
    · have hlt' : ¬ (k : Int) < (n : Int) := by omega
      have hkn : k = n := by omega
      rw [hkn] at hN
      have FIN : Hid (∃ GA, ArAt wr ab GA (newA n s.toNat) ∧ (∀ k, GA k → w.heap.size ≤ k) ∧ Below w.heap.size w wr) := ⟨_, hN.done h1 h2 (by omega) (by omega), fun x hx => by
        rcases hx with h5 | h5 | ⟨i, hi, h5⟩
        · rw [h5]; exact hN.la
        · rw [h5]; exact hN.lm
        · exact (hN.up i hi x h5).2.2, hN.b⟩
      clear hN
      go_wp2
      refine bodyPost_ret (v := .tuple #[.pointer (some ⟨ab, 0, none⟩), .int .i64 0]) (by simp [results, Try.results10, go_sem]) rfl ?_
      obtain ⟨GA, r⟩ := FIN.out
      exact ⟨ab, GA, rfl, r⟩
set_option maxRecDepth 100000 in
theorem anew_no {w : World} {n : Nat} {s : Int} (h1 : 1 ≤ n) (h2 : n ≤ 32) (h3 : ¬ (1 ≤ s ∧ s ≤ 4096)) : Calls Try.prog 10 #[.int .i64 (n : Int), .int .i64 s] w fun e w' => e = .returned (.tuple #[.pointer none, .int .i64 1]) ∧ Below w.heap.size w w' := by
  have q1 : ¬ (n : Int) < 1 := by omega
  have q2 : ¬ (n : Int) > 32 := by omega
  obtain ⟨u, mk1, hr, hb, hs⟩ := laid_u w n h2
  obtain ⟨g, hg⟩ : ∃ g, Hid (g = w.heap.size) := ⟨_, rfl⟩
  rw [← hg.out] at mk1 hr
  have LA := laid_a u g n
  have c0 := LA.cell (i := 0) (by omega)
  simp only [faR, if_true] at c0
  have START : Hid (Below w.heap.size w (u.alloc (.cells #[.slice (some ⟨g, 0, none⟩) n n, .int .i64 0, .bool false] 64))) := hb.alloc (by have := hb.size; omega) _
  clear hs LA hb hr
  go_enter Try.func10, Try.ntmps10
  go_wp2
  obtain ⟨ab, hab⟩ : ∃ ab, Hid (ab = u.heap.size) := ⟨_, rfl⟩
  rw [← hab.out]
  go_loopw [25] (fun i wr => i = .int .i64 0 ∧ Below w.heap.size w wr) (fun _ _ => 0)
  case atStart => exact ⟨rfl, START.out⟩
  case round =>
    clear START
    obtain ⟨rfl, hb⟩ := hrel
    have hlt' : (0 : Int) < (n : Int) := by omega
    have HB : Hid _ := hb
    clear hb
    go_wp2_with fail
    refine (dmake_no h3).mono ?_
    rintro _ wq ⟨rfl, hwq⟩
    rw [hwq]
    clear hwq wq
    go_wp2
    refine bodyPost_ret (v := .tuple #[.pointer none, .int .i64 1]) (by simp [results, Try.results10, go_sem]) rfl ?_
    exact ⟨rfl, HB.out⟩
end Go.Proofs.Ytpijncnpicgjeaa.Gf

/-
  THE STATEMENTS' HELPERS OF LAYER 13: 'awake'; how an array and what it told are carried over a call: 'ArB', 'Told', 'ToldR'.
-/

namespace Go.Proofs.Ytpijncnpicgjeaa.Gf
set_option linter.unusedVariables false
set_option linter.unusedSimpArgs false
open Go.RowKit

section
variable {w w' : World} {ab N : Nat} {GA GA' : Nat → Prop} {a a' : ArS}
/-- an array and the least number of its blocks -/
structure ArB (w : World) (N : Nat) (ab : Nat) (GA : Nat → Prop) (a : ArS) : Prop where
  at_ : ArAt w ab GA a
  low : ∀ k, GA k → N ≤ k
  size : N ≤ w.heap.size
theorem ArB.below (h : ArB w N ab GA a) (hb : Below w.heap.size w w') : ArB w' N ab GA a := ⟨h.at_.below hb, h.low, Nat.le_trans h.size hb.size⟩
theorem ArB.grew (h : ArB w N ab GA a) (hd : ArAt w' ab GA' a') (g : Grew GA w GA' w') : ArB w' N ab GA' a' := ⟨hd, g.base h.low h.size, Nat.le_trans h.size g.turn.size⟩
theorem ArB.bel (h : ArB w N ab GA a) (g : Grew GA w GA' w') : Below N w w' := g.below h.low h.size
theorem Told.ownA {v : Value} {p : List UInt8} {e : Nat} (h : ArAt w ab GA a) (ho : w'.ownsRow w.heap.size e 1 v p.length (p.map vb)) : Told w' GA v p := ⟨Rd.owned ho, ApartG.own ho h.lt⟩
/-- a row that was told, apart from the array -/
structure ToldR (w : World) (G : Nat → Prop) (g t n : Nat) (f : Nat → Value) : Prop where
  row : w.rowIs g t n f
  ap : ¬ G g
theorem ToldR.below {G : Nat → Prop} {g t n : Nat} {f : Nat → Value} (h : ToldR w G g t n f) (hb : Below w.heap.size w w') : ToldR w' G g t n f := ⟨h.row.of_block (hb.block g h.row.lt), h.ap⟩
theorem ToldR.grew {G G' : Nat → Prop} {g t n : Nat} {f : Nat → Value} (h : ToldR w G g t n f) (gr : Grew G w G' w') : ToldR w' G' g t n f := ⟨h.row.of_block (gr.turn.block g h.row.lt h.ap), gr.off h.row.lt h.ap⟩
theorem ToldR.own {g t n : Nat} {f : Nat → Value} (h : ArAt w ab GA a) (r : w'.rowIs g t n f) (hg : w.heap.size ≤ g) : ToldR w' GA g t n f := ⟨r, fun e => by have := h.lt g e; omega⟩
/-- a list of one list of one integer -/
theorem litII {G : Nat → Prop} (z : Int) (hz : (Lit.int .i64 z).wf = true) (e1 e2 : Nat) (hG : ∀ k, G k → k < w.heap.size) :
    ToldII ((w.alloc (.cells #[.int .i64 z] e1)).alloc (.cells #[.slice (some ⟨w.heap.size, 0, none⟩) 1 1] e2)) G (.slice (some ⟨w.heap.size + 1, 0, none⟩) 1 1) [(.slice (some ⟨w.heap.size, 0, none⟩) 1 1, [z])] := by
  have s1 : (w.alloc (.cells #[.int .i64 z] e1)).heap.size = w.heap.size + 1 := by simp
  refine ⟨Or.inr ⟨w.heap.size + 1, 0, 1, by simp, rfl, by simp [maxLen], by simp, fun i hi => ?_⟩, ?_, ?_⟩
  · have e : i = 0 := by simpa using hi
    subst e
    refine ⟨?_, ?_, ?_⟩
    · show World.cell? _ ⟨w.heap.size + 1, 0, none⟩ = some (Value.slice (some ⟨w.heap.size, 0, none⟩) 1 1)
      rw [← s1]
      exact World.cell?_alloc_new _ _ _ _
    · exact (litI w z e1).below (belA _ _)
    · intro y hy
      have : y = z := by simpa using hy
      rw [this]; exact hz
  · intro x n c e
    simp at e
    obtain ⟨rfl, _⟩ := e
    exact Or.inr (fun h => by have := hG _ h; simp at this; omega)
  · intro r hr
    have : r = (.slice (some ⟨w.heap.size, 0, none⟩) 1 1, [z]) := by simpa using hr
    rw [this]
    intro x n c e
    simp at e
    obtain ⟨rfl, _⟩ := e
    exact Or.inr (fun h => by have := hG _ h; simp at this)
end
theorem OwnH.formL {w : World} {base : Nat} {v : Value} {L : List (Int × List UInt8)} (h : OwnH w base v L) : ∃ a c, v = .slice a L.length c := by
  obtain ⟨T, h1, h2⟩ := h
  obtain ⟨a, c, e⟩ := owns_slice h2.row
  refine ⟨a, c, ?_⟩
  rw [e, ← h1]
  simp [bareT]
def ax1 : ArS := caA (newA 2 4) 1
def ax2 : ArS := wrAS ax1 0 1 [7]
def ax3 : ArS := reAS ax2 [[1]]
def ax4 : ArS := faAS ax3 1
theorem ax_w : wrAX ax1 0 1 [7] = 0 := by decide
theorem ax_r : rdAX ax2 0 1 = 130 := by decide
theorem ax_r' : rdAB ax2 0 1 = [] := by decide
theorem ax_d : ax2.off = true := by decide
theorem ax_b : rdAX ax3 0 1 = 0 := by decide
theorem ax_b' : rdAB ax3 0 1 = [7] := by decide
theorem ax_h : thX ax3 1 = 0 := by decide
theorem ax_l : ax4.D.length = 2 := by decide
theorem ax_l0 : (ax4.D.getD 0 default).dead = false := by decide
theorem ax_l1 : (ax4.D.getD 1 default).dead = true := by decide
theorem ax_n0 : ax4.B.getD 0 0 = 0 := by decide
theorem ax_n1 : ax4.B.getD 1 0 = 1 := by decide
theorem ax_e : wrAX ax4 1 1 [7] = 120 := by decide
theorem ax_e' : wrAS ax4 1 1 [7] = ax4 := by
  unfold wrAS
  rw [if_neg (by decide), if_pos (by decide), if_neg (by decide)]
theorem ax_f : wrAX ax4 2 1 [7] = 1 := by decide
theorem newA_len (n s : Nat) : (newA n s).D.length = n := by simp [newA]
section
variable {w : World} {ab : Nat} {GA : Nat → Prop} {a : ArS}
theorem awrite_is (h : ArAt w ab GA a) {i ad : Int} (hi : (Lit.int .i64 i).wf = true) (ha : (Lit.int .i64 ad).wf = true) {v : Value} {p : List UInt8} (hp : Rd w v p) {x : Int} (hx : wrAX a i ad p = x) {a' : ArS} (hd : wrAS a i ad p = a') : Calls Try.prog 16 #[.pointer (some ⟨ab, 0, none⟩), .int .i64 i, .int .i64 ad, v] w (LeavesA w ab GA a' (.int .i64 x)) := by
  rw [← hx, ← hd]; exact awrite_any h hi ha hp
theorem aread_is (h : ArAt w ab GA a) {i ad : Int} (hi : (Lit.int .i64 i).wf = true) (ha : (Lit.int .i64 ad).wf = true) {x : Int} (hx : rdAX a i ad = x) {p : List UInt8} (hp : rdAB a i ad = p) : Calls Try.prog 17 #[.pointer (some ⟨ab, 0, none⟩), .int .i64 i, .int .i64 ad] w (Tells w x p) := by
  rw [← hx, ← hp]; exact aread_any h hi ha
theorem afail_is (h : ArAt w ab GA a) {i : Int} (hi : (Lit.int .i64 i).wf = true) {x : Int} (hx : thX a i = x) : Calls Try.prog 25 #[.pointer (some ⟨ab, 0, none⟩), .int .i64 i] w (LeavesA w ab GA (faAS a i) (.int .i64 x)) := by
  rw [← hx]; exact afail_any h hi
theorem aflush_is (h : ArAt w ab GA a) {x : Int} (hx : flAX a = x) {a' : ArS} (hd : flAS a = a') : Calls Try.prog 18 #[.pointer (some ⟨ab, 0, none⟩)] w (LeavesA w ab GA a' (.int .i64 x)) := by
  rw [← hx, ← hd]; exact aflush_any h
theorem flAS_off (a : ArS) : (flAS a).off = a.off := by unfold flAS; split <;> rfl
theorem alive_is (h : ArAt w ab GA a) {n : Nat} (hn : a.D.length = n) : Calls Try.prog 28 #[.pointer (some ⟨ab, 0, none⟩)] w (MadeRow w 4 n (fun i => .bool (!(a.D.getD i default).dead))) := by
  rw [← hn]; exact alive_any h
theorem abirths_is (h : ArAt w ab GA a) {n : Nat} (hn : a.D.length = n) : Calls Try.prog 29 #[.pointer (some ⟨ab, 0, none⟩)] w (MadeRow w 3 n (fun i => .int .i64 (a.B.getD i 0))) := by
  rw [← hn]; exact abirths_any h
theorem adown_is (h : ArAt w ab GA a) {x : Bool} (hx : a.off = x) : Calls Try.prog 19 #[.pointer (some ⟨ab, 0, none⟩)] w fun e w' => e = .returned (.bool x) ∧ w' = w := by
  rw [← hx]; exact adown_any h
theorem anew_is {w : World} {n s : Int} {m : Nat} (e : n = (m : Int)) (h1 : 1 ≤ m) (h2 : m ≤ 32) (h3 : 1 ≤ s) (h4 : s ≤ 4096) {k : Nat} (hs : s.toNat = k) : Calls Try.prog 10 #[.int .i64 n, .int .i64 s] w (NewsA w m k) := by
  subst e hs
  exact anew_any h1 h2 h3 h4
end
set_option maxRecDepth 100000 in
set_option maxHeartbeats 2000000 in
theorem awake_any {w : World} : Calls Try.prog 9 #[] w fun e w' => e = .returned (.bool true) ∧ Below w.heap.size w w' := by
  go_enter Try.func9, Try.ntmps9
  go_wp2_with fail
  refine (anew_is (n := 2) (s := 4) (m := 2) (k := 4) rfl (by decide) (by decide) (by decide) (by decide) rfl).mono ?_
  rintro _ w1 ⟨ab, G1, rfl, A1, H1, B1⟩
  have D1 : ArB w1 w.heap.size ab G1 (newA 2 4) := ⟨A1, H1, B1.size⟩
  clear A1 H1
  go_wp2_with fail
  refine (anew_bad (n := 33) (s := 4) (by decide)).mono ?_
  rintro _ wq ⟨rfl, hwq⟩
  rw [hwq]
  clear hwq wq
  go_wp2_with fail
  refine (aafter_any D1.at_ (n := 1) (by decide)).mono ?_
  rintro _ w2 ⟨rfl, G2, A2, g2⟩
  have D2 : ArB w2 w.heap.size ab G2 ax1 := D1.grew A2 g2
  have B2 := B1.trans (D1.bel g2)
  clear A2 g2 D1 B1
  go_wp2_with fail
  have D2a := fun o => D2.below (belA w2 o)
  have B2a := fun o => B2.step12 (belA w2 o) B2.size
  refine (awrite_is (D2a _).at_ (by decide) (by decide) (rd_lit [7] rfl rfl (by decide)) ax_w (a' := ax2) rfl).mono ?_
  rintro _ w3 ⟨rfl, G3, A3, g3⟩
  have D3 : ArB w3 w.heap.size ab G3 ax2 := (D2a _).grew A3 g3
  have B3 := (B2a _).trans ((D2a _).bel g3)
  clear D2a B2a A3 g3 D2 B2
  go_wp2_with fail
  refine (aread_is D3.at_ (by decide) (by decide) ax_r ax_r').mono ?_
  rintro _ w4 ⟨vr, rfl, O4, C4⟩
  have D4 := D3.below C4
  have B4 := B3.step12 C4 B3.size
  obtain ⟨ar, cr, rfl⟩ := owns_slice O4
  clear O4 C4 D3 B3
  go_wp2_with fail
  refine (adown_is D4.at_ ax_d).mono ?_
  rintro _ wq ⟨rfl, hwq⟩
  rw [hwq]
  clear hwq wq
  go_wp2_with fail
  have D4a := fun o p => (D4.below (belA w4 o)).below (belA (w4.alloc o) p)
  have B4a := fun o p => (B4.step12 (belA w4 o) B4.size).step12 (belA (w4.alloc o) p) (Nat.le_trans B4.size (belA w4 o).size)
  refine (arestart_any (D4a _ _).at_ (litII 1 (by decide) 3 56 D4.at_.lt) (by intro r hr; simp at hr; subst hr; show 1 ≤ 1000000; decide)).mono ?_
  rintro _ w5 ⟨rfl, G5, A5, g5⟩
  have D5 : ArB w5 w.heap.size ab G5 ax3 := (D4a _ _).grew A5 g5
  have B5 := (B4a _ _).trans ((D4a _ _).bel g5)
  clear D4a B4a A5 g5 D4 B4
  go_wp2_with fail
  refine (aread_is D5.at_ (by decide) (by decide) ax_b ax_b').mono ?_
  rintro _ w6 ⟨vb, rfl, O6, C6⟩
  have Tb6 := Told.ownA D5.at_ O6
  have D6 := D5.below C6
  have B6 := B5.step12 C6 B5.size
  obtain ⟨bb, cb, rfl⟩ := owns_slice O6
  clear O6 C6 D5 B5
  go_wp2_with fail
  refine (afail_is D6.at_ (by decide) ax_h).mono ?_
  rintro _ w7 ⟨rfl, G7, A7, g7⟩
  have D7 : ArB w7 w.heap.size ab G7 ax4 := D6.grew A7 g7
  have Tb7 := Tb6.grew g7
  have B7 := B6.trans (D6.bel g7)
  clear A7 g7 D6 B6 Tb6
  go_wp2_with fail
  refine (alive_is D7.at_ ax_l).mono ?_
  rintro _ w8 ⟨gl, rfl, R8, hl8, C8⟩
  have L8 := ToldR.own D7.at_ R8 hl8
  have D8 := D7.below C8
  have Tb8 := Tb7.below C8
  have B8 := B7.step12 C8 B7.size
  clear R8 hl8 C8 D7 B7 Tb7
  go_wp2_with fail
  refine (abirths_is D8.at_ ax_l).mono ?_
  rintro _ w9 ⟨gn, rfl, R9, hl9, C9⟩
  have N9 := ToldR.own D8.at_ R9 hl9
  have D9 := D8.below C9
  have Tb9 := Tb8.below C9
  have L9 := L8.below C9
  have B9 := B8.step12 C9 B8.size
  clear R9 hl9 C9 D8 B8 Tb8 L8
  obtain ⟨b9, o9, k9, e9, y9⟩ := Tb9.byte
  obtain ⟨rfl, rfl⟩ : bb = some ⟨b9, o9, none⟩ ∧ cb = k9 := by simpa using e9
  clear e9
  have l0 := L9.row.cell (i := 0) (by decide)
  have l1 := L9.row.cell (i := 1) (by decide)
  have n0 := N9.row.cell (i := 0) (by decide)
  have n1 := N9.row.cell (i := 1) (by decide)
  rw [ax_l0] at l0
  rw [ax_l1] at l1
  rw [ax_n0] at n0
  rw [ax_n1] at n1
  simp only [UInt8.reduceToNat, Int.cast_ofNat_Int, Bool.not_true, Bool.not_false] at y9 l0 l1
  clear L9 N9
  go_wp2_with fail
  refine (awrite_is D9.at_ (by decide) (by decide) Tb9.rd ax_e ax_e').mono ?_
  rintro _ w10 ⟨rfl, G10, A10, g10⟩
  have D10 : ArB w10 w.heap.size ab G10 ax4 := D9.grew A10 g10
  have Tb10 := Tb9.grew g10
  have B10 := B9.trans (D9.bel g10)
  clear A10 g10 D9 B9 Tb9
  go_wp2_with fail
  refine (awrite_is D10.at_ (by decide) (by decide) Tb10.rd ax_f rfl).mono ?_
  rintro _ w11 ⟨rfl, G11, A11, g11⟩
  have FB : Hid (Below w.heap.size w w11) := B10.trans (D10.bel g11)
  clear A11 g11 D10 B10 Tb10
  go_wp2
  go_ret
  exact ⟨rfl, FB.out⟩
end Go.Proofs.Ytpijncnpicgjeaa.Gf

/-
  ROWS OF LISTS, BUILT BY 'append': two of them, apart from an array and from what they hold: 'Two'; a value appended to a row of the call's own.
-/


namespace Go.Proofs.Ytpijncnpicgjeaa.Gf
set_option linter.unusedVariables false
set_option linter.unusedSimpArgs false
open Go.RowKit

/-- 'append(s, x)': one value of one cell, laid as a list of one -/
theorem wpList_append_v {P : Program} (w : World) {ops : Array Oper} {rest : List Oper} {o : Oper} {a : Act} {Q : Exit → Act → World → Prop} (hgd : o.guard = none) (s x : Operand) (t : TypeId)
    (ho : o.op = .call { callee := .builtin .append, args := #[s, x], argTypes := #[t, t] })
    (base : Nat) (e : TypeId) (i : TypeInfo) (z : Value) (by_ : Nat) (ht : P.underlying t = some (.slice e)) (hi : P.info? e = some i) (hz : i.zero = some z) (hsize : i.size = 1) (hby : i.bytes = by_) (hzc : z.cells.size = 1) (hb24 : by_ ≤ 24)
    (v : Value) (n : Nat) (xs : List Value) (hs : a.eval s = v) (hown : w.ownsRow base e 1 v n xs) (b c : Nat) (u : Value) (hx : a.eval x = .slice (some ⟨b, 0, none⟩) 1 c) (hr : w.cell? ⟨b, 0, none⟩ = some u) (hu : u.oneCell' = true) (hl : n ≤ 100000) (hbase : base ≤ w.heap.size)
    (h : ∀ v' w', w'.ownsRow base e 1 v' (n + 1) (xs ++ [u]) → w.grownBy w' v.ownBlock → (v'.ownBlock = v.ownBlock ∨ v'.ownBlock = some w.heap.size) → wpList P ops Q rest (a.put o.dst v') w') : wpList P ops Q (o :: rest) a w := by
  refine wpList_plain hgd fun K hK => ?_
  have hb6 : (n + 1) * by_ ≤ 140737488355328 := Nat.le_trans (Nat.mul_le_mul (show n + 1 ≤ 100001 by omega) hb24) (by decide)
  obtain ⟨v', w', hrun, h2, h3, _, h5⟩ := run_append_own_at (P := P) w base t o.type e i z 1 by_ ht hi hz hsize hby hzc (by decide) v n xs hown ⟨b, 0, none⟩ 1 c [u] rfl (by intro j y hj; rw [add_at, Nat.zero_add]; rcases j with _ | j <;> simp at hj; subst hj; exact hr) (by intro y hy; simp at hy; rw [hy]; exact hu) (by unfold maxLen; omega) hb6 hbase
  unfold Oper.wp execOp
  simp only [ho, resolve, invoke, builtin, Sem.run_bind, Sem.run_pure, Result.andThen_ok, List.map_toArray, List.map_cons, List.map_nil, hs, hx, hrun]
  exact hK _ _ (h v' w' h2 h3 h5)

theorem ToldT.ownG {w w' : World} {G : Nat → Prop} {v : Value} {T : List TH} (hlt : ∀ k, G k → k < w.heap.size) (ho : OwnT w' w.heap.size v T) (hl : T.length ≤ 100000) : ToldT w' G v T := by
  refine ⟨ho.rd hl, ?_, fun t ht => ApartG.own (ho.each t ht) hlt⟩
  intro x n c e
  right
  intro hg
  have h1 := row_at ho.row (g := x.block) (by rw [e]; rfl)
  have h2 := hlt _ hg
  omega
theorem ToldH.ownG {w w' : World} {G : Nat → Prop} {v : Value} {L : List (Int × List UInt8)} (hlt : ∀ k, G k → k < w.heap.size) (ho : OwnH w' w.heap.size v L) (hl : L.length ≤ 100000) : ToldH w' G v L := by
  obtain ⟨T, h1, h2⟩ := ho
  exact ⟨T, h1, ToldT.ownG hlt h2 (by rw [← h1, bareT_length] at hl; exact hl)⟩
theorem OwnH.rdA {w : World} {base : Nat} {v : Value} {L : List (Int × List UInt8)} (h : OwnH w base v L) (hl : L.length ≤ 100000) : RdH w v L := by
  obtain ⟨T, h1, h2⟩ := h
  exact ⟨T, h1, h2.rd (by rw [← h1, bareT_length] at hl; exact hl)⟩
theorem ToldH.form {w : World} {G : Nat → Prop} {v : Value} {L : List (Int × List UInt8)} (h : ToldH w G v L) : ∃ a c, v = .slice a L.length c := by
  obtain ⟨T, h1, h2⟩ := h
  obtain ⟨a, c, e⟩ := h2.rd.form
  exact ⟨a, c, by rw [e, ← h1, bareT_length]⟩
theorem ToldH.wide {w : World} {G G' : Nat → Prop} {v : Value} {L : List (Int × List UInt8)} (h : ToldH w G v L) (hg : ∀ k, G' k → G k) : ToldH w G' v L := by
  obtain ⟨T, h1, h2⟩ := h
  exact ⟨T, h1, h2.rd, fun x n c e => (h2.ap x n c e).imp id (fun h3 h4 => h3 (hg _ h4)), fun t ht x n c e => (h2.each t ht x n c e).imp id (fun h3 h4 => h3 (hg _ h4))⟩

/-- what may turn: the array's blocks, and both rows -/
def Hot2 (G : Nat → Prop) (v u : Value) : Nat → Prop := fun k => G k ∨ v.ownBlock = some k ∨ u.ownBlock = some k
structure Two (w : World) (base : Nat) (G : Nat → Prop) (v u : Value) (vs us : List Value) (L M : List (List (Int × List UInt8))) : Prop where
  rv : w.ownsRow base 44 1 v vs.length vs
  ru : w.ownsRow base 44 1 u us.length us
  lv : vs.length = L.length
  lu : us.length = M.length
  nv : ∀ k, v.ownBlock = some k → ¬ G k
  nu : ∀ k, u.ownBlock = some k → ¬ G k
  nn : ∀ k, v.ownBlock = some k → u.ownBlock ≠ some k
  ev : ∀ i, i < L.length → ToldH w (Hot2 G v u) (vs.getD i undef) (L.getD i [])
  eu : ∀ i, i < M.length → ToldH w (Hot2 G v u) (us.getD i undef) (M.getD i [])
section
variable {w w' w1 w2 : World} {base : Nat} {G G' : Nat → Prop} {v u v' x : Value} {vs us : List Value} {L M : List (List (Int × List UInt8))} {l : List (Int × List UInt8)}
theorem Two.nil (w : World) (base : Nat) (G : Nat → Prop) : Two w base G (.slice none 0 0) (.slice none 0 0) [] [] [] [] :=
  ⟨⟨rfl, Or.inl ⟨rfl, rfl⟩⟩, ⟨rfl, Or.inl ⟨rfl, rfl⟩⟩, rfl, rfl, (fun k h => by cases h), (fun k h => by cases h), (fun k h => by cases h), (fun i hi => absurd hi (Nat.not_lt_zero _)), (fun i hi => absurd hi (Nat.not_lt_zero _))⟩
theorem hot_swap (G : Nat → Prop) (v u : Value) : Hot2 G u v = Hot2 G v u := by
  funext k
  unfold Hot2
  exact propext ⟨fun h => h.elim Or.inl (fun h => Or.inr h.symm), fun h => h.elim Or.inl (fun h => Or.inr h.symm)⟩
theorem Two.swap (h : Two w base G v u vs us L M) : Two w base G u v us vs M L :=
  ⟨h.ru, h.rv, h.lu, h.lv, h.nu, h.nv, fun k h1 h2 => h.nn k h2 h1, fun i hi => by rw [hot_swap]; exact h.eu i hi, fun i hi => by rw [hot_swap]; exact h.ev i hi⟩
theorem Two.below (h : Two w base G v u vs us L M) (hb : Below w.heap.size w w') : Two w' base G v u vs us L M :=
  ⟨owns_later h.rv hb, owns_later h.ru hb, h.lv, h.lu, h.nv, h.nu, h.nn, fun i hi => (h.ev i hi).below hb, fun i hi => (h.eu i hi).below hb⟩
theorem Two.lt (h : Two w base G v u vs us L M) (hG : ∀ k, G k → k < w.heap.size) : ∀ k, Hot2 G v u k → k < w.heap.size := by
  intro k hk
  rcases hk with h1 | h1 | h1
  · exact hG k h1
  · exact (row_at h.rv h1).2.1
  · exact (row_at h.ru h1).2.1
theorem Two.grew (h : Two w base G v u vs us L M) (g : Grew G w G' w') : Two w' base G' v u vs us L M := by
  have gg : Grew (Hot2 G v u) w (Hot2 G' v u) w' := by
    refine g.wide (fun k hk => Or.inl hk) (fun k hk => ?_)
    rcases hk with h1 | h1
    · rcases g.grow k h1 with h2 | h2
      · exact Or.inl (Or.inl h2)
      · exact Or.inr h2
    · exact Or.inl (Or.inr h1)
  refine ⟨owns_block h.rv (fun k hk => g.turn.block k (row_at h.rv hk).2.1 (h.nv k hk)), owns_block h.ru (fun k hk => g.turn.block k (row_at h.ru hk).2.1 (h.nu k hk)), h.lv, h.lu, fun k hk => g.off (row_at h.rv hk).2.1 (h.nv k hk), fun k hk => g.off (row_at h.ru hk).2.1 (h.nu k hk), h.nn, fun i hi => (h.ev i hi).grew gg, fun i hi => (h.eu i hi).grew gg⟩
theorem getD_snoc {α : Type} {l : List α} {x d : α} {i : Nat} : (l ++ [x]).getD i d = if i < l.length then l.getD i d else if i = l.length then x else d := by
  by_cases h : i < l.length
  · rw [if_pos h]; simp [List.getD, h, List.getElem?_append_left]
  · rw [if_neg h]
    by_cases h2 : i = l.length
    · subst h2; simp [List.getD]
    · rw [if_neg h2]
      have : (l ++ [x])[i]? = none := List.getElem?_eq_none (by simp; omega)
      simp [List.getD, this]
/-- a list is appended to the first row -/
theorem Two.push (h : Two w base G v u vs us L M) (hG : ∀ k, G k → k < w.heap.size) (hx : ToldH w (Hot2 G v u) x l) (hr : w2.ownsRow base 44 1 v' (vs.length + 1) (vs ++ [x])) (g : w.grownBy w2 v.ownBlock) (hv : v'.ownBlock = v.ownBlock ∨ v'.ownBlock = some w.heap.size) : Two w2 base G v' u (vs ++ [x]) us (L ++ [l]) M := by
  have t : TurnG (fun k => v.ownBlock = some k) w w2 := ⟨g.os, g.tape, g.output, g.size, fun k hk hn => g.block k hk (fun e => hn e.symm)⟩
  have gg : Grew (Hot2 G v u) w (Hot2 G v' u) w2 := by
    refine Grew.wide ⟨t, fun k hk => Or.inl hk⟩ (fun k hk => Or.inr (Or.inl hk)) (fun k hk => ?_)
    rcases hk with h1 | h1 | h1
    · exact Or.inl (Or.inl h1)
    · rcases hv with e | e
      · rw [e] at h1; exact Or.inl (Or.inr (Or.inl h1))
      · rw [e] at h1; cases h1; exact Or.inr (Nat.le_refl _)
    · exact Or.inl (Or.inr (Or.inr h1))
  have hl : (vs ++ [x]).length = vs.length + 1 := by simp
  refine ⟨by rw [hl]; exact hr, owns_block h.ru (fun k hk => t.block k (row_at h.ru hk).2.1 (fun e => h.nn k e hk)), by simp [h.lv], h.lu, fun k hk => ?_, h.nu, fun k hk => ?_, fun i hi => ?_, fun i hi => (h.eu i hi).grew gg⟩
  · rcases hv with e | e
    · rw [e] at hk; exact h.nv k hk
    · rw [e] at hk; cases hk; intro h1; have := hG _ h1; omega
  · rcases hv with e | e
    · rw [e] at hk; exact h.nn k hk
    · rw [e] at hk; cases hk; intro h1; have := (row_at h.ru h1).2.1; omega
  · rw [getD_snoc, getD_snoc, h.lv]
    have hi2 : i < L.length + 1 := by simpa using hi
    by_cases e : i < L.length
    · rw [if_pos e, if_pos e]
      exact (h.ev i e).grew gg
    · rw [if_neg e, if_neg e, if_pos (by omega), if_pos (by omega)]
      exact hx.grew gg
theorem Two.gg (h : Two w base G v u vs us L M) (g : w.grownBy w2 v.ownBlock) (hv : v'.ownBlock = v.ownBlock ∨ v'.ownBlock = some w.heap.size) : Grew (Hot2 G v u) w (Hot2 G v' u) w2 := by
  have t : TurnG (fun k => v.ownBlock = some k) w w2 := ⟨g.os, g.tape, g.output, g.size, fun k hk hn => g.block k hk (fun e => hn e.symm)⟩
  refine Grew.wide ⟨t, fun k hk => Or.inl hk⟩ (fun k hk => Or.inr (Or.inl hk)) (fun k hk => ?_)
  rcases hk with h1 | h1 | h1
  · exact Or.inl (Or.inl h1)
  · rcases hv with e | e
    · rw [e] at h1; exact Or.inl (Or.inr (Or.inl h1))
    · rw [e] at h1; cases h1; exact Or.inr (Nat.le_refl _)
  · exact Or.inl (Or.inr (Or.inr h1))
theorem ArB.grown {N ab : Nat} {a : ArS} (h : ArB w N ab G a) (hn : ∀ k, v.ownBlock = some k → ¬ G k) (g : w.grownBy w2 v.ownBlock) : ArB w2 N ab G a :=
  ⟨h.at_.keep (fun k hk => g.block k (h.at_.lt k hk) (fun e => hn k e.symm hk)) g.size, h.low, Nat.le_trans h.size g.size⟩
theorem Two.bel {B0 : World} (h : Two w base G v u vs us L M) (hb : Below base B0 w) (hs : base ≤ w.heap.size) (g : w.grownBy w2 v.ownBlock) : Below base B0 w2 := hb.grown g hs (fun q hq => (row_at h.rv hq).1)
/-- what may turn, behind what the array has done -/
theorem hot_grew (v u : Value) (g : Grew G w G' w') : Grew (Hot2 G v u) w (Hot2 G' v u) w' := by
  refine g.wide (fun k hk => Or.inl hk) (fun k hk => ?_)
  rcases hk with h1 | h1
  · rcases g.grow k h1 with h2 | h2
    · exact Or.inl (Or.inl h2)
    · exact Or.inr h2
  · exact Or.inl (Or.inr h1)
/-- an entry of the first row -/
theorem Two.at (h : Two w base G v u vs us L M) {i : Nat} (hi : i < L.length) : ∃ g c, v = .slice (some ⟨g, 0, none⟩) L.length c ∧ w.cell? ⟨g, i, none⟩ = some (vs.getD i undef) := by
  have hn : vs.length ≠ 0 := by rw [h.lv]; omega
  obtain ⟨g, c, e, _, h2⟩ := owns_form h.rv hn
  refine ⟨g, c, by rw [e, h.lv], ?_⟩
  have hi2 : i < vs.length := by rw [h.lv]; exact hi
  rw [World.ownsRow.cellAt h2 i (by omega)]
  simp [List.getD, hi2]
end
theorem ToldR.none {w : World} {G : Nat → Prop} {g t n : Nat} {f : Nat → Value} (h : ToldR w G g t n f) : ToldR w (Hot2 G (.slice none 0 0) (.slice none 0 0)) g t n f := ⟨h.row, fun e => e.elim h.ap (fun e => e.elim (fun e => by cases e) (fun e => by cases e))⟩
theorem ToldR.base {w : World} {G : Nat → Prop} {v u : Value} {g t n : Nat} {f : Nat → Value} (h : ToldR w (Hot2 G v u) g t n f) : ToldR w G g t n f := ⟨h.row, fun e => h.ap (Or.inl e)⟩
theorem Rd.nilA {w : World} : Rd w (.slice none 0 0) [] := by
  obtain ⟨p, e, hp⟩ := rd_row (w := w) (a := none) (len := 0) (cap := 0) (zs := []) (Or.inl ⟨rfl, rfl, rfl, rfl⟩)
  have : p = [] := List.length_eq_zero_iff.1 (by simpa using e.symm)
  rw [this] at hp
  exact hp
theorem info_helds13 : (Try.prog.info? 44).map (fun i => (i.zero, i.size, i.bytes)) = some (some (.slice none 0 0), 1, 24) := by kernel_rfl
/-- what lasts, and what waits, on the first k disks -/
def lsF (a : ArS) (k : Nat) : List (List (Int × List UInt8)) := (List.range k).map fun i => heldL (a.D.getD i default).last (a.D.getD i default).s
def wsF (a : ArS) (k : Nat) : List (List (Int × List UInt8)) := (List.range k).map fun i => heldL (a.D.getD i default).wait (a.D.getD i default).s
theorem lsF_succ (a : ArS) (k : Nat) : lsF a k ++ [heldL (a.D.getD k default).last (a.D.getD k default).s] = lsF a (k + 1) := by simp [lsF, List.range_succ]
theorem wsF_succ (a : ArS) (k : Nat) : wsF a k ++ [heldL (a.D.getD k default).wait (a.D.getD k default).s] = wsF a (k + 1) := by simp [wsF, List.range_succ]
theorem lsF_len (a : ArS) (k : Nat) : (lsF a k).length = k := by simp [lsF]
theorem wsF_len (a : ArS) (k : Nat) : (wsF a k).length = k := by simp [wsF]
theorem lsF_at (a : ArS) {k i : Nat} (h : i < k) : (lsF a k).getD i [] = heldL (a.D.getD i default).last (a.D.getD i default).s := by simp [lsF, List.getD, h]
theorem wsF_at (a : ArS) {k i : Nat} (h : i < k) : (wsF a k).getD i [] = heldL (a.D.getD i default).wait (a.D.getD i default).s := by simp [wsF, List.getD, h]
theorem held_few {a : ArS} (ok : a.Ok) {i : Nat} (hi : i < a.D.length) (f : Int → Option (List UInt8)) : (heldL f (a.D.getD i default).s).length ≤ 100000 := by
  have h1 : a.D.getD i default ∈ a.D := by
    rw [show a.D.getD i default = a.D[i] by simp [List.getD, hi]]
    exact List.getElem_mem hi
  have h2 := (ok.each _ h1).s2
  have h3 := heldL_length f (a.D.getD i default).s
  omega
end Go.Proofs.Ytpijncnpicgjeaa.Gf

/-
  THE DOCUMENT's ARRAY BY CONTRACT (package aumbryref13): Live.
-/


namespace Go.Proofs.Ytpijncnpicgjeaa.Gf
set_option linter.unusedVariables false
set_option linter.unusedSimpArgs false
open Go.RowKit

section
variable {w : World} {rb : Nat} {HR GA : Nat → Prop} {a : ArS}
def lvF (a : ArS) (k : Nat) : List Value := (List.range k).map fun i => .bool (!(a.D.getD i default).dead)
theorem lvF_succ (a : ArS) (k : Nat) : lvF a k ++ [.bool (!(a.D.getD k default).dead)] = lvF a (k + 1) := by simp [lvF, List.range_succ]
theorem lvF_len (a : ArS) (k : Nat) : (lvF a k).length = k := by simp [lvF]
set_option maxRecDepth 100000 in
theorem rliveA_any (h : RaAt w rb HR GA a) : Calls Try.prog 43 #[.pointer (some ⟨rb, 0, none⟩)] w fun e w' => ∃ v, e = .returned v ∧ w'.ownsRow w.heap.size 4 1 v a.D.length (lvF a a.D.length) ∧ Below w.heap.size w w' := by
  obtain ⟨xb, yb, cx, cy, rd, hM, ok⟩ := h
  obtain ⟨i0, hi, hz0, hz1, hz2⟩ := info_parts info_bool13
  have hd2 := hM.d2
  have START : Hid (w.ownsRow w.heap.size 4 1 (.slice none 0 0) 0 (lvF a 0) ∧ Below w.heap.size w w) := ⟨⟨rfl, Or.inl ⟨rfl, rfl⟩⟩, Below.refl _ _⟩
  go_enter Try.func43, Try.ntmps43
  go_wp2
  go_loopw [3, 4] (fun ov i wr => ∃ k : Nat, k ≤ a.D.length ∧ i = .int .i64 (k : Int) ∧ wr.ownsRow w.heap.size 4 1 ov k (lvF a k) ∧ Below w.heap.size w wr) (fun _ i _ => a.D.length - (intOf i).toNat)
  case atStart => exact ⟨0, Nat.zero_le _, rfl, START.out⟩
  case round =>
    clear START
    obtain ⟨k, hk, rfl, ho, hb⟩ := hrel
    have hMr := hM.below hb
    have c0 := hMr.c0
    by_cases hlt : k < a.D.length
    · have hlt' : (k : Int) < (a.D.length : Int) := by omega
      have g1 : IntKind.i64.wrap ((k : Int) + 1) = ((k + 1 : Nat) : Int) := by rw [IntKind.wrap_i64]; omega
      have x0 := hMr.x k hlt
      have d0 : wr.cell? ⟨rd k, 3, none⟩ = some (.bool (a.D.getD k default).dead) := by
        obtain ⟨vl, vw, Tl, Tw, hI⟩ := hMr.dk k hlt
        exact hI.c3
      have hsu : Hid _ := lvF_succ a k
      obtain ⟨x, hx⟩ : ∃ x, x = (a.D.getD k default).dead := ⟨_, rfl⟩
      rw [← hx] at d0 hsu
      have oA := World.ownsRow.alloc ho (.cells #[.bool (!x)] 4)
      have bA := hb.trans ((belA wr (.cells #[.bool (!x)] 4)).mono hb.size)
      clear hMr hx
      · go_wp2_with (at_builtin; go_loud (refine wpList_append_v _ rfl (.tmp 14) (.tmp 26) 54 rfl w.heap.size 4 i0 (.bool false) 1 Try.underlying54 hi hz0 hz1 hz2 rfl (by decide) u3 k (lvF a k) rfl oA wr.heap.size 1 (.bool (!x)) rfl (World.cell?_alloc_new _ _ _ 0) rfl (by omega) bA.size ?_); intro ov' w4 h4 g4 e4)
        rw [hsu.out] at h4
        have E4 : Hid (w4.ownsRow w.heap.size 4 1 ov' (k + 1) (lvF a (k + 1)) ∧ Below w.heap.size w w4) := ⟨h4, bA.grown g4 bA.size (fun q hq => (row_at oA hq).1)⟩
        clear h4 g4 e4 oA bA ho hb hsu c0 x0 d0
        go_roundw
        case rel => exact ⟨k + 1, by omega, by go_num, E4.out⟩
        case measure => simp [intOf]; omega
    · have hlt' : ¬ (k : Int) < (a.D.length : Int) := by omega
      obtain rfl : k = a.D.length := by omega
      have FIN : Hid _ := And.intro ho hb
      clear ho hb hMr
      go_wp2
      go_ret
      exact ⟨_, rfl, FIN.out⟩
end
end Go.Proofs.Ytpijncnpicgjeaa.Gf

/-
  THE DOCUMENT's ARRAY BY CONTRACT (package aumbryref13): New.
-/

namespace Go.Proofs.Ytpijncnpicgjeaa.Gf
set_option linter.unusedVariables false
set_option linter.unusedSimpArgs false
open Go.RowKit

theorem info_pdisk13 : (Try.prog.info? 73).map (fun i => (i.zero, i.size, i.bytes)) = some (some (.pointer none), 1, 8) := by kernel_rfl
theorem rnewA_bad {w : World} {n s : Int} (h : ¬ (1 ≤ n ∧ n ≤ 32)) : Calls Try.prog 11 #[.int .i64 n, .int .i64 s] w fun e w' => e = .returned (.tuple #[.pointer none, .int .i64 1]) ∧ w' = w := by
  by_cases h1 : n < 1
  · go_enter Try.func11, Try.ntmps11
    go_wp2
    refine bodyPost_ret (v := .tuple #[.pointer none, .int .i64 1]) (by simp [results, Try.results11, go_sem]) rfl ?_
    exact ⟨rfl, rfl⟩
  · have h2 : n > 32 := by omega
    go_enter Try.func11, Try.ntmps11
    go_wp2
    refine bodyPost_ret (v := .tuple #[.pointer none, .int .i64 1]) (by simp [results, Try.results11, go_sem]) rfl ?_
    exact ⟨rfl, rfl⟩
/-- the document's array while it is made: k disks, kx of them in its row, ky births -/
def rbF (vx vy : Value) (j : Nat) : Value := if j = 0 then vx else if j = 1 then vy else if j = 2 then .int .i64 (-1) else .bool false
def dkF (s : Int) (j : Nat) : Value := if j = 0 then .int .i64 s else if j = 1 then .slice none 0 0 else if j = 2 then .slice none 0 0 else .bool false
def ptrL (rd : Nat → Nat) (k : Nat) : List Value := (List.range k).map fun i => .pointer (some ⟨rd i, 0, none⟩)
def zrL (k : Nat) : List Value := (List.range k).map fun _ => .int .i64 0
theorem ptrL_succ (rd : Nat → Nat) (k : Nat) : ptrL rd k ++ [.pointer (some ⟨rd k, 0, none⟩)] = ptrL rd (k + 1) := by simp [ptrL, List.range_succ]
theorem zrL_succ (k : Nat) : zrL k ++ [.int .i64 0] = zrL (k + 1) := by simp [zrL, List.range_succ]
theorem ptrL_at (rd : Nat → Nat) {k i : Nat} (h : i < k) : (ptrL rd k)[i]? = some (.pointer (some ⟨rd i, 0, none⟩)) := by simp [ptrL, h]
theorem zrL_at {k i : Nat} (h : i < k) : (zrL k)[i]? = some (.int .i64 0) := by simp [zrL, h]
structure NewR (w wr : World) (rb k kx ky : Nat) (vx vy : Value) (rd : Nat → Nat) (s : Int) : Prop where
  b : Below w.heap.size w wr
  lr : w.heap.size ≤ rb
  rr : wr.rowIs rb 72 4 (rbF vx vy)
  ox : wr.ownsRow w.heap.size 73 1 vx kx (ptrL rd kx)
  oy : wr.ownsRow w.heap.size 3 1 vy ky (zrL ky)
  hx : kx ≤ k
  dk : ∀ i, i < k → wr.rowIs (rd i) 78 4 (dkF s)
  ld : ∀ i, i < k → w.heap.size ≤ rd i
  inj : ∀ i j, i < k → j < k → rd i = rd j → i = j
  nr : ∀ i, i < k → rd i ≠ rb
  nx : ∀ q, vx.ownBlock = some q → q ≠ rb ∧ vy.ownBlock ≠ some q ∧ ∀ i, i < k → rd i ≠ q
  ny : ∀ q, vy.ownBlock = some q → q ≠ rb ∧ ∀ i, i < k → rd i ≠ q
section
variable {w wr w3 : World} {rb k kx ky : Nat} {vx vy vx' vy' : Value} {rd : Nat → Nat} {s : Int}
theorem NewR.alloc (h : NewR w wr rb k kx ky vx vy rd s) (o : Obj) : NewR w (wr.alloc o) rb k kx ky vx vy rd s :=
  ⟨h.b.trans ((belA wr o).mono h.b.size), h.lr, h.rr.alloc o, World.ownsRow.alloc h.ox o, World.ownsRow.alloc h.oy o, h.hx, fun i hi => (h.dk i hi).alloc o, h.ld, h.inj, h.nr, h.nx, h.ny⟩
theorem NewR.disk (h : NewR w wr rb k kx ky vx vy rd s) : NewR w (wr.alloc (.cells #[.int .i64 s, .slice none 0 0, .slice none 0 0, .bool false] 78)) rb (k + 1) kx ky vx vy (fun i => if i = k then wr.heap.size else rd i) s := by
  have h2 := h.alloc (.cells #[.int .i64 s, .slice none 0 0, .slice none 0 0, .bool false] 78)
  have lt : ∀ i, i < k → rd i < wr.heap.size := fun i hi => (h.dk i hi).lt
  have ep : ptrL (fun i => if i = k then wr.heap.size else rd i) kx = ptrL rd kx := by
    unfold ptrL
    refine List.map_congr_left fun i hi => ?_
    have h3 : i < kx := by simpa using hi
    have h4 := h.hx
    show Value.pointer (some ⟨if i = k then wr.heap.size else rd i, 0, none⟩) = _
    rw [if_neg (by omega)]
  refine ⟨h2.b, h.lr, h2.rr, by rw [ep]; exact h2.ox, h2.oy, by have := h.hx; omega, fun i hi => ?_, fun i hi => ?_, fun i j hi hj e => ?_, fun i hi => ?_, fun q hq => ⟨(h.nx q hq).1, (h.nx q hq).2.1, fun i hi => ?_⟩, fun q hq => ⟨(h.ny q hq).1, fun i hi => ?_⟩⟩
  · show World.rowIs _ (if i = k then wr.heap.size else rd i) _ _ _
    by_cases e : i = k
    · rw [if_pos e]
      exact World.rowIs_alloc wr #[.int .i64 s, .slice none 0 0, .slice none 0 0, .bool false] 78 (dkF s) (fun j hj => by
        have hj2 : j < 4 := hj
        match j, hj2 with
        | 0, _ => rfl
        | 1, _ => rfl
        | 2, _ => rfl
        | 3, _ => rfl)
    · rw [if_neg e]; exact h2.dk i (by omega)
  · show _ ≤ (if i = k then wr.heap.size else rd i)
    by_cases e : i = k
    · rw [if_pos e]; exact h.b.size
    · rw [if_neg e]; exact h.ld i (by omega)
  · replace e : (if i = k then wr.heap.size else rd i) = (if j = k then wr.heap.size else rd j) := e
    by_cases e1 : i = k
    · rw [if_pos e1] at e
      by_cases e2 : j = k
      · omega
      · rw [if_neg e2] at e; have := lt j (by omega); omega
    · rw [if_neg e1] at e
      by_cases e2 : j = k
      · rw [if_pos e2] at e; have := lt i (by omega); omega
      · rw [if_neg e2] at e; exact h.inj i j (by omega) (by omega) e
  · show (if i = k then wr.heap.size else rd i) ≠ rb
    by_cases e : i = k
    · rw [if_pos e]; have := h.rr.lt; omega
    · rw [if_neg e]; exact h.nr i (by omega)
  · show (if i = k then wr.heap.size else rd i) ≠ q
    by_cases e : i = k
    · rw [if_pos e]; have := (row_at h.ox hq).2.1; omega
    · rw [if_neg e]; exact (h.nx q hq).2.2 i (by omega)
  · show (if i = k then wr.heap.size else rd i) ≠ q
    by_cases e : i = k
    · rw [if_pos e]; have := (row_at h.oy hq).2.1; omega
    · rw [if_neg e]; exact (h.ny q hq).2 i (by omega)
/-- a disk is appended to the row: ahead of the store -/
theorem NewR.preX (h : NewR w wr rb k kx ky vx vy rd s) (g : wr.grownBy w3 vx.ownBlock) : w3.rowIs rb 72 4 (rbF vx vy) :=
  h.rr.of_block (g.block rb h.rr.lt (fun e => (h.nx rb e.symm).1 rfl))
theorem NewR.preY (h : NewR w wr rb k kx ky vx vy rd s) (g : wr.grownBy w3 vy.ownBlock) : w3.rowIs rb 72 4 (rbF vx vy) :=
  h.rr.of_block (g.block rb h.rr.lt (fun e => (h.ny rb e.symm).1 rfl))
theorem NewR.pushX (h : NewR w wr rb k kx ky vx vy rd s) (hk : kx < k) (hr : w3.ownsRow w.heap.size 73 1 vx' (kx + 1) (ptrL rd kx ++ [.pointer (some ⟨rd kx, 0, none⟩)])) (g : wr.grownBy w3 vx.ownBlock) (e : vx'.ownBlock = vx.ownBlock ∨ vx'.ownBlock = some wr.heap.size) :
    NewR w (w3.setCell ⟨rb, 0, none⟩ vx') rb k (kx + 1) ky vx' vy rd s := by
  have nb : ∀ q, vx'.ownBlock = some q → q ≠ rb ∧ vy.ownBlock ≠ some q ∧ ∀ i, i < k → rd i ≠ q := fun q hq => by
    rcases e with e | e
    · rw [e] at hq; exact h.nx q hq
    · rw [e] at hq
      cases hq
      exact ⟨by have := h.rr.lt; omega, fun e2 => by have := (row_at h.oy e2).2.1; omega, fun i hi => by have := (h.dk i hi).lt; omega⟩
  have kb : ∀ q, q ≠ rb → (w3.setCell ⟨rb, 0, none⟩ vx').heap[q]? = w3.heap[q]? := fun q hq => Below.heap_setCell w3 ⟨rb, 0, none⟩ _ q hq
  rw [ptrL_succ] at hr
  refine ⟨(h.b.grown g h.b.size (fun q hq => (row_at h.ox hq).1)).setCell h.lr _, h.lr, ((h.preX g).set 0 vx').congr (fun j hj => ?_), owns_block hr (fun q hq => kb q (nb q hq).1), owns_block h.oy (fun q hq => (kb q (h.ny q hq).1).trans (g.block q (row_at h.oy hq).2.1 (fun e2 => (h.nx q e2.symm).2.1 hq))), by omega, fun i hi => ?_, h.ld, h.inj, h.nr, nb, h.ny⟩
  · unfold rbF
    by_cases e0 : j = 0
    · rw [if_pos e0, if_pos e0]
    · rw [if_neg e0, if_neg e0, if_neg e0]
  · exact (h.dk i hi).of_block ((kb _ (h.nr i hi)).trans (g.block _ (h.dk i hi).lt (fun e2 => (h.nx _ e2.symm).2.2 i hi rfl)))
theorem NewR.pushY (h : NewR w wr rb k kx ky vx vy rd s) (hr : w3.ownsRow w.heap.size 3 1 vy' (ky + 1) (zrL ky ++ [.int .i64 0])) (g : wr.grownBy w3 vy.ownBlock) (e : vy'.ownBlock = vy.ownBlock ∨ vy'.ownBlock = some wr.heap.size) :
    NewR w (w3.setCell ⟨rb, 1, none⟩ vy') rb k kx (ky + 1) vx vy' rd s := by
  have nb : ∀ q, vy'.ownBlock = some q → q ≠ rb ∧ vx.ownBlock ≠ some q ∧ ∀ i, i < k → rd i ≠ q := fun q hq => by
    rcases e with e | e
    · rw [e] at hq; exact ⟨(h.ny q hq).1, fun e2 => (h.nx q e2).2.1 hq, (h.ny q hq).2⟩
    · rw [e] at hq
      cases hq
      exact ⟨by have := h.rr.lt; omega, fun e2 => by have := (row_at h.ox e2).2.1; omega, fun i hi => by have := (h.dk i hi).lt; omega⟩
  have kb : ∀ q, q ≠ rb → (w3.setCell ⟨rb, 1, none⟩ vy').heap[q]? = w3.heap[q]? := fun q hq => Below.heap_setCell w3 ⟨rb, 1, none⟩ _ q hq
  rw [zrL_succ] at hr
  refine ⟨(h.b.grown g h.b.size (fun q hq => (row_at h.oy hq).1)).setCell h.lr _, h.lr, ((h.preY g).set 1 vy').congr (fun j hj => ?_), owns_block h.ox (fun q hq => (kb q (h.nx q hq).1).trans (g.block q (row_at h.ox hq).2.1 (fun e2 => (h.nx q hq).2.1 e2.symm))), owns_block hr (fun q hq => kb q (nb q hq).1), h.hx, fun i hi => ?_, h.ld, h.inj, h.nr, fun q hq => ⟨(h.nx q hq).1, fun e2 => (nb q e2).2.1 hq, (h.nx q hq).2.2⟩, fun q hq => ⟨(nb q hq).1, (nb q hq).2.2⟩⟩
  · unfold rbF
    by_cases e1 : j = 1
    · subst e1; rfl
    · rw [if_neg e1]
      by_cases e0 : j = 0
      · rw [if_pos e0, if_pos e0]
      · rw [if_neg e0, if_neg e0, if_neg e1, if_neg e1]
  · exact (h.dk i hi).of_block ((kb _ (h.nr i hi)).trans (g.block _ (h.dk i hi).lt (fun e2 => (h.ny _ e2.symm).2 i hi rfl)))
/-- the array is made -/
theorem NewR.done {n : Nat} (h : NewR w wr rb n n n vx vy rd s) (h1 : 1 ≤ n) (h2 : n ≤ 32) (h3 : 1 ≤ s) (h4 : s ≤ 4096) {GA : Nat → Prop} (hG : ∀ k, GA k → k < w.heap.size) :
    ∃ HR, RaAt wr rb HR GA (newA n s.toNat) ∧ ∀ k, HR k → w.heap.size ≤ k := by
  have hl : (newA n s.toNat).D.length = n := by simp [newA]
  obtain ⟨gx, cx, ex, bx, ox⟩ := owns_form h.ox (by omega)
  obtain ⟨gy, cy, ey, by_, oy⟩ := owns_form h.oy (by omega)
  subst ex ey
  have nx := h.nx gx rfl
  have ny := h.ny gy rfl
  have hge : ∀ k, (k = rb ∨ k = gx ∨ k = gy ∨ ∃ i, i < n ∧ k = rd i) → w.heap.size ≤ k ∧ k < wr.heap.size := fun k hk => by
    rcases hk with e | e | e | ⟨i, hi, e⟩
    · rw [e]; exact ⟨h.lr, h.rr.lt⟩
    · rw [e]; exact ⟨bx, (row_at h.ox rfl).2.1⟩
    · rw [e]; exact ⟨by_, (row_at h.oy rfl).2.1⟩
    · rw [e]; exact ⟨h.ld i hi, (h.dk i hi).lt⟩
  have hGs : ∀ k, GA k → k < wr.heap.size := fun k hk => Nat.lt_of_lt_of_le (hG k hk) h.b.size
  have hn : ((s.toNat : Nat) : Int) = s := by omega
  refine ⟨fun k => k = rb ∨ k = gx ∨ k = gy ∨ ∃ i, i < n ∧ k = rd i, ⟨gx, gy, cx, cy, rd, ⟨?_, ?_, h.rr.cell (i := 2) (by omega), h.rr.cell (i := 3) (by omega), h.rr.frozen 2, h.rr.frozen 3, fun i hi => ?_, fun i hi => ?_, fun i hi => World.ownsRow.frozenAt oy i, fun i hi => ?_, fun i j hi hj => h.inj i j (hl ▸ hi) (hl ▸ hj), fun i hi => ⟨h.nr i (hl ▸ hi), nx.2.2 i (hl ▸ hi), ny.2 i (hl ▸ hi)⟩, fun e => nx.1 e.symm, fun e => ny.1 e.symm, fun e => nx.2.1 (by rw [e]; rfl), Or.inl rfl, Or.inr (Or.inl rfl), Or.inr (Or.inr (Or.inl rfl)), fun i hi => Or.inr (Or.inr (Or.inr ⟨i, hl ▸ hi, rfl⟩)), fun k hk hg => by have := (hge k hk).1; have := hG k hg; omega, fun k hk => (hge k hk).2, hGs, by rw [hl]; exact h1, by rw [hl]; exact h2, by simp [newA], by simp [newA]; decide⟩, newA_ok h1 h2 (by omega) (by omega)⟩, fun k hk => (hge k hk).1⟩
  · rw [hl]; exact h.rr.cell (i := 0) (by omega)
  · rw [hl]; exact h.rr.cell (i := 1) (by omega)
  · rw [hl] at hi
    rw [World.ownsRow.cellAt ox i (by omega)]
    exact ptrL_at rd hi
  · rw [hl] at hi
    rw [World.ownsRow.cellAt oy i (by omega), zrL_at hi]
    simp only [newA]
    rw [rep_getD hi]
  · rw [hl] at hi
    simp only [newA]
    rw [rep_getD hi]
    have r := h.dk i hi
    refine ⟨.slice none 0 0, .slice none 0 0, [], [], ?_, r.cell (i := 1) (by omega), r.cell (i := 2) (by omega), r.cell (i := 3) (by omega), r.frozen 1, r.frozen 2, r.frozen 3, (heldL_none _).symm, (heldL_none _).symm, told_nil _ _, told_nil _ _, cap_nil, cap_nil, Or.inl (Or.inr (Or.inr (Or.inr ⟨i, hi, rfl⟩))), fun k hk => hk.elim (fun h5 => (hge k h5).2) (hGs k), by show s.toNat ≤ 4096; omega⟩
    rw [r.cell (i := 0) (by omega)]
    show some (Value.int .i64 s) = some (.int .i64 ((s.toNat : Nat) : Int))
    rw [hn]
end
/-- a new array of the document's -/
def NewsR (w : World) (n s : Nat) (GA : Nat → Prop) (e : Ending) (w' : World) : Prop := ∃ rb HR, e = .returned (.tuple #[.pointer (some ⟨rb, 0, none⟩), .int .i64 0]) ∧ RaAt w' rb HR GA (newA n s) ∧ (∀ k, HR k → w.heap.size ≤ k) ∧ Below w.heap.size w w'
theorem laid_r (w : World) : (w.alloc (.cells #[.slice none 0 0, .slice none 0 0, .int .i64 (-1), .bool false] 72)).rowIs w.heap.size 72 4 (rbF (.slice none 0 0) (.slice none 0 0)) :=
  World.rowIs_alloc w #[.slice none 0 0, .slice none 0 0, .int .i64 (-1), .bool false] 72 (rbF (.slice none 0 0) (.slice none 0 0)) (fun i hi => by
    have hi2 : i < 4 := hi
    match i, hi2 with
    | 0, _ => rfl
    | 1, _ => rfl
    | 2, _ => rfl
    | 3, _ => rfl)
theorem lit_after (w : World) (rb : Nat) (v x : Value) (e : Nat) : ((w.setCell ⟨rb, 0, none⟩ v).alloc (.cells #[x] e)).cell? ⟨w.heap.size, 0, none⟩ = some x := by
  have h := World.cell?_alloc_new (w.setCell ⟨rb, 0, none⟩ v) #[x] e 0
  have s : (w.setCell ⟨rb, 0, none⟩ v).heap.size = w.heap.size := by simp
  rw [s] at h
  exact h
set_option maxRecDepth 100000 in
theorem rnewA_any {w : World} {n : Nat} {s : Int} (h1 : 1 ≤ n) (h2 : n ≤ 32) (h3 : 1 ≤ s) (h4 : s ≤ 4096) {GA : Nat → Prop} (hG : ∀ k, GA k → k < w.heap.size) : Calls Try.prog 11 #[.int .i64 (n : Int), .int .i64 s] w (NewsR w n s.toNat GA) := by
  have q1 : ¬ (n : Int) < 1 := by omega
  have q2 : ¬ (n : Int) > 32 := by omega
  obtain ⟨i0, hi, hz0, hz1, hz2⟩ := info_parts info_pdisk13
  obtain ⟨j0, hj, hy0, hy1, hy2⟩ := info_parts info_int13
  have LR := laid_r w
  have START : Hid (∃ vx vy rd, NewR w (w.alloc (.cells #[.slice none 0 0, .slice none 0 0, .int .i64 (-1), .bool false] 72)) w.heap.size 0 0 0 vx vy rd s) :=
    ⟨.slice none 0 0, .slice none 0 0, fun _ => 0, belA _ _, Nat.le_refl _, LR, ⟨rfl, Or.inl ⟨rfl, rfl⟩⟩, ⟨rfl, Or.inl ⟨rfl, rfl⟩⟩, Nat.le_refl _, (fun i hi => absurd hi (Nat.not_lt_zero _)), (fun i hi => absurd hi (Nat.not_lt_zero _)), (fun i j hi => absurd hi (Nat.not_lt_zero _)), (fun i hi => absurd hi (Nat.not_lt_zero _)), (fun q hq => by cases hq), (fun q hq => by cases hq)⟩
  clear LR
  go_enter Try.func11, Try.ntmps11
  go_wp2
  obtain ⟨rb, hrb⟩ : ∃ rb, Hid (rb = w.heap.size) := ⟨_, rfl⟩
  rw [← hrb.out]
  rw [show w.heap.size = rb from hrb.out.symm] at START
  go_loopw [7] (fun i wr => ∃ k : Nat, k ≤ n ∧ i = .int .i64 (k : Int) ∧ ∃ vx vy rd, NewR w wr rb k k k vx vy rd s) (fun i _ => n - (intOf i).toNat)
  case atStart => exact ⟨0, Nat.zero_le _, rfl, by obtain ⟨vx, vy, rd, h⟩ := START.out; exact ⟨vx, vy, rd, by rw [hrb.out] at h ⊢; exact h⟩⟩
  case round =>
    clear START
    obtain ⟨k, hk, rfl, vx, vy, rd, hN⟩ := hrel
    by_cases hlt : k < n
    · have hlt' : (k : Int) < (n : Int) := by omega
      have g1 : IntKind.i64.wrap ((k : Int) + 1) = ((k + 1 : Nat) : Int) := by rw [IntKind.wrap_i64]; omega
      go_wp2_with fail
      refine (rnew_any h3 h4).mono ?_
      rintro _ w1 ⟨rfl, hw1⟩
      have N1 := hN.disk
      rw [← hw1] at N1
      obtain ⟨d, hd⟩ : ∃ d, Hid (d = wr.heap.size) := ⟨_, rfl⟩
      have hrk : Hid ((fun i => if i = k then wr.heap.size else rd i) k = d) := by show (if k = k then wr.heap.size else rd k) = d; rw [if_pos rfl, hd.out]
      obtain ⟨rd1, hrd1⟩ : ∃ rd1, rd1 = (fun i => if i = k then wr.heap.size else rd i) := ⟨_, rfl⟩
      rw [← hrd1] at N1 hrk
      rw [← hd.out]
      clear hN hw1 hrd1 hd
      have c0 := N1.rr.cell (i := 0) (by omega)
      rw [show rbF vx vy 0 = vx from rfl] at c0
      have N2 := N1.alloc (.cells #[.pointer (some ⟨d, 0, none⟩)] 73)
      obtain ⟨xa, xc, rfl⟩ := owns_slice N1.ox
      have kd : k < k + 1 := Nat.lt_succ_self k
      have hdd : Hid (∀ X : Value, X = .pointer (some ⟨d, 0, none⟩) → X = .pointer (some ⟨rd1 k, 0, none⟩)) := fun X hX => by rw [hX, hrk.out]
      obtain ⟨ya, yc, rfl⟩ := owns_slice N1.oy
      go_wp2_with (first
        | (at_builtin; (refine wpList_append_v _ rfl (.tmp 35) (.tmp 37) 70 rfl w.heap.size 73 i0 (.pointer none) 8 Try.underlying70 hi hz0 hz1 hz2 rfl (by decide) (.slice xa k xc) k (ptrL rd1 k) rfl N2.ox w1.heap.size 1 (.pointer (some ⟨d, 0, none⟩)) rfl (World.cell?_alloc_new _ _ _ 0) rfl (by omega) N2.b.size ?_); intro vx' w3 h3x g3 e3; have d0 := (N2.preX g3).cell (i := 0) (by omega); have f0 := (N2.preX g3).frozen 0; have d1 := (N2.preX g3).cell (i := 1) (by omega); rw [show rbF (.slice xa k xc) (.slice ya k yc) 1 = .slice ya k yc from rfl] at d1; rw [hdd.out _ rfl] at h3x; have N4 := N2.pushX kd h3x g3 e3; have N5 := N4.alloc (.cells #[.int .i64 0] 3); obtain ⟨xa', xc', rfl⟩ := owns_slice h3x)
        | (at_builtin; (refine wpList_append_v _ rfl (.tmp 45) (.tmp 46) 56 rfl w.heap.size 3 j0 (.int .i64 0) 8 Try.underlying56 hj hy0 hy1 hy2 rfl (by decide) (.slice ya k yc) k (zrL k) rfl N5.oy w3.heap.size 1 (.int .i64 0) rfl (lit_after _ _ _ _ _) rfl (by omega) N5.b.size ?_); intro vy' w6 h6y g6 e6; have c6 := (N5.preY g6).cell (i := 1) (by omega); have f6 := (N5.preY g6).frozen 1; have N7 := N5.pushY h6y g6 e6; obtain ⟨ya', yc', rfl⟩ := owns_slice h6y))
      have E7 : Hid (∃ vx vy rd, NewR w (w6.setCell ⟨rb, 1, none⟩ (.slice ya' (k + 1) yc')) rb (k + 1) (k + 1) (k + 1) vx vy rd s) := ⟨_, _, _, N7⟩
      clear N7 N5 N4 N2 N1 h3x g3 e3 h6y g6 e6
      go_roundw
      case rel => exact ⟨k + 1, by omega, by go_num, E7.out⟩
      case measure => simp [intOf]; omega
    · have hlt' : ¬ (k : Int) < (n : Int) := by omega
      obtain rfl : k = n := by omega
      have FIN : Hid (∃ HR, (RaAt wr rb HR GA (newA k s.toNat) ∧ ∀ q, HR q → w.heap.size ≤ q) ∧ Below w.heap.size w wr) := by
        obtain ⟨HR, h5⟩ := hN.done h1 h2 h3 h4 hG
        exact ⟨HR, h5, hN.b⟩
      clear hN
      go_wp2
      refine bodyPost_ret (v := .tuple #[.pointer (some ⟨rb, 0, none⟩), .int .i64 0]) (by simp [results, Try.results11, go_sem]) rfl ?_
      obtain ⟨HR, ⟨h5, h6⟩, h7⟩ := FIN.out
      exact ⟨rb, HR, rfl, h5, h6, h7⟩
set_option maxRecDepth 100000 in
theorem rnewA_no {w : World} {n : Nat} {s : Int} (h1 : 1 ≤ n) (h2 : n ≤ 32) (h3 : ¬ (1 ≤ s ∧ s ≤ 4096)) : Calls Try.prog 11 #[.int .i64 (n : Int), .int .i64 s] w fun e w' => e = .returned (.tuple #[.pointer none, .int .i64 1]) ∧ Below w.heap.size w w' := by
  have q1 : ¬ (n : Int) < 1 := by omega
  have q2 : ¬ (n : Int) > 32 := by omega
  have START : Hid (Below w.heap.size w (w.alloc (.cells #[.slice none 0 0, .slice none 0 0, .int .i64 (-1), .bool false] 72))) := belA _ _
  go_enter Try.func11, Try.ntmps11
  go_wp2
  go_loopw [7] (fun i wr => i = .int .i64 0 ∧ Below w.heap.size w wr) (fun _ _ => 0)
  case atStart => exact ⟨rfl, START.out⟩
  case round =>
    clear START
    obtain ⟨rfl, hb⟩ := hrel
    have hlt' : (0 : Int) < (n : Int) := by omega
    have HB : Hid _ := hb
    clear hb
    go_wp2_with fail
    refine (rnew_no h3).mono ?_
    rintro _ wq ⟨rfl, hwq⟩
    rw [hwq]
    clear hwq wq
    go_wp2
    refine bodyPost_ret (v := .tuple #[.pointer none, .int .i64 1]) (by simp [results, Try.results11, go_sem]) rfl ?_
    exact ⟨rfl, HB.out⟩
end Go.Proofs.Ytpijncnpicgjeaa.Gf

