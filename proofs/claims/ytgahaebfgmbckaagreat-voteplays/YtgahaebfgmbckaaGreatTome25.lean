/- TEXTS JOINED: ArRN. -/
import Derived.Test.YtgahaebfgmbckaaGreatTome24
namespace Go.Proofs.YtgahaebfgmbckaaGreat.Gf
set_option linter.unusedVariables false
set_option linter.unusedSimpArgs false
open Go.RowKit
theorem info_pdisk13 : (Tryz.prog.info? 62).map (fun i => (i.zero, i.size, i.bytes)) = some (some (.pointer none), 1, 8) := by kernel_rfl
/-- the document's array while it is made: k disks, kx of them in its row, ky births -/
def rbF (vx vy : Value) (j : Nat) : Value := if j = 0 then vx else if j = 1 then vy else if j = 2 then .int .i64 (-1) else .bool false
def dkF (s : Int) (j : Nat) : Value := if j = 0 then .int .i64 s else if j = 1 then .slice none 0 0 else if j = 2 then .slice none 0 0 else .bool false
def ptrL (rd : Nat → Nat) (k : Nat) : List Value := (List.range k).map fun i => .pointer (some ⟨rd i, 0, none⟩)
def zrL (k : Nat) : List Value := (List.range k).map fun _ => .int .i64 0
theorem ptrL_succ (rd : Nat → Nat) (k : Nat) : ptrL rd k ++ [.pointer (some ⟨rd k, 0, none⟩)] = ptrL rd (k + 1) := by simp [ptrL, List.range_succ]
theorem zrL_succ (k : Nat) : zrL k ++ [.int .i64 0] = zrL (k + 1) := by simp [zrL, List.range_succ]
theorem ptrL_at (rd : Nat → Nat) {k i : Nat} (h : i < k) : (ptrL rd k)[i]? = some (.pointer (some ⟨rd i, 0, none⟩)) := by simp [ptrL, h]
theorem zrL_at {k i : Nat} (h : i < k) : (zrL k)[i]? = some (.int .i64 0) := by simp [zrL, h]
structure NewR (w wr : World) (rb k kx ky : Nat) (vx vy : Value) (rd : Nat → Nat) (s : Int) : Prop where
  b : Below w.heap.size w wr
  lr : w.heap.size ≤ rb
  rr : wr.rowIs rb 61 4 (rbF vx vy)
  ox : wr.ownsRow w.heap.size 62 1 vx kx (ptrL rd kx)
  oy : wr.ownsRow w.heap.size 3 1 vy ky (zrL ky)
  hx : kx ≤ k
  dk : ∀ i, i < k → wr.rowIs (rd i) 74 4 (dkF s)
  ld : ∀ i, i < k → w.heap.size ≤ rd i
  inj : ∀ i j, i < k → j < k → rd i = rd j → i = j
  nr : ∀ i, i < k → rd i ≠ rb
  nx : ∀ q, vx.ownBlock = some q → q ≠ rb ∧ vy.ownBlock ≠ some q ∧ ∀ i, i < k → rd i ≠ q
  ny : ∀ q, vy.ownBlock = some q → q ≠ rb ∧ ∀ i, i < k → rd i ≠ q
section
variable {w wr w3 : World} {rb k kx ky : Nat} {vx vy vx' vy' : Value} {rd : Nat → Nat} {s : Int}
theorem NewR.alloc (h : NewR w wr rb k kx ky vx vy rd s) (o : Obj) : NewR w (wr.alloc o) rb k kx ky vx vy rd s :=
  ⟨h.b.trans ((belA wr o).mono h.b.size), h.lr, h.rr.alloc o, World.ownsRow.alloc h.ox o, World.ownsRow.alloc h.oy o, h.hx, fun i hi => (h.dk i hi).alloc o, h.ld, h.inj, h.nr, h.nx, h.ny⟩
theorem NewR.disk (h : NewR w wr rb k kx ky vx vy rd s) : NewR w (wr.alloc (.cells #[.int .i64 s, .slice none 0 0, .slice none 0 0, .bool false] 74)) rb (k + 1) kx ky vx vy (fun i => if i = k then wr.heap.size else rd i) s := by
  have h2 := h.alloc (.cells #[.int .i64 s, .slice none 0 0, .slice none 0 0, .bool false] 74)
  have lt : ∀ i, i < k → rd i < wr.heap.size := fun i hi => (h.dk i hi).lt
  have ep : ptrL (fun i => if i = k then wr.heap.size else rd i) kx = ptrL rd kx := by
    unfold ptrL
    refine List.map_congr_left fun i hi => ?_
    have h3 : i < kx := by simpa using hi
    have h4 := h.hx
    show Value.pointer (some ⟨if i = k then wr.heap.size else rd i, 0, none⟩) = _
    rw [if_neg (by omega)]
  refine ⟨h2.b, h.lr, h2.rr, by rw [ep]; exact h2.ox, h2.oy, by have := h.hx; omega, fun i hi => ?_, fun i hi => ?_, fun i j hi hj e => ?_, fun i hi => ?_, fun q hq => ⟨(h.nx q hq).1, (h.nx q hq).2.1, fun i hi => ?_⟩, fun q hq => ⟨(h.ny q hq).1, fun i hi => ?_⟩⟩
  · show World.rowIs _ (if i = k then wr.heap.size else rd i) _ _ _
    by_cases e : i = k
    · rw [if_pos e]
      exact World.rowIs_alloc wr #[.int .i64 s, .slice none 0 0, .slice none 0 0, .bool false] 74 (dkF s) (fun j hj => by
        have hj2 : j < 4 := hj
        match j, hj2 with
        | 0, _ => rfl
        | 1, _ => rfl
        | 2, _ => rfl
        | 3, _ => rfl)
    · rw [if_neg e]; exact h2.dk i (by omega)
  · show _ ≤ (if i = k then wr.heap.size else rd i)
    by_cases e : i = k
    · rw [if_pos e]; exact h.b.size
    · rw [if_neg e]; exact h.ld i (by omega)
  · replace e : (if i = k then wr.heap.size else rd i) = (if j = k then wr.heap.size else rd j) := e
    by_cases e1 : i = k
    · rw [if_pos e1] at e
      by_cases e2 : j = k
      · omega
      · rw [if_neg e2] at e; have := lt j (by omega); omega
    · rw [if_neg e1] at e
      by_cases e2 : j = k
      · rw [if_pos e2] at e; have := lt i (by omega); omega
      · rw [if_neg e2] at e; exact h.inj i j (by omega) (by omega) e
  · show (if i = k then wr.heap.size else rd i) ≠ rb
    by_cases e : i = k
    · rw [if_pos e]; have := h.rr.lt; omega
    · rw [if_neg e]; exact h.nr i (by omega)
  · show (if i = k then wr.heap.size else rd i) ≠ q
    by_cases e : i = k
    · rw [if_pos e]; have := (row_at h.ox hq).2.1; omega
    · rw [if_neg e]; exact (h.nx q hq).2.2 i (by omega)
  · show (if i = k then wr.heap.size else rd i) ≠ q
    by_cases e : i = k
    · rw [if_pos e]; have := (row_at h.oy hq).2.1; omega
    · rw [if_neg e]; exact (h.ny q hq).2 i (by omega)
/-- a disk is appended to the row: ahead of the store -/
theorem NewR.preX (h : NewR w wr rb k kx ky vx vy rd s) (g : wr.grownBy w3 vx.ownBlock) : w3.rowIs rb 61 4 (rbF vx vy) :=
  h.rr.of_block (g.block rb h.rr.lt (fun e => (h.nx rb e.symm).1 rfl))
theorem NewR.preY (h : NewR w wr rb k kx ky vx vy rd s) (g : wr.grownBy w3 vy.ownBlock) : w3.rowIs rb 61 4 (rbF vx vy) :=
  h.rr.of_block (g.block rb h.rr.lt (fun e => (h.ny rb e.symm).1 rfl))
theorem NewR.pushX (h : NewR w wr rb k kx ky vx vy rd s) (hk : kx < k) (hr : w3.ownsRow w.heap.size 62 1 vx' (kx + 1) (ptrL rd kx ++ [.pointer (some ⟨rd kx, 0, none⟩)])) (g : wr.grownBy w3 vx.ownBlock) (e : vx'.ownBlock = vx.ownBlock ∨ vx'.ownBlock = some wr.heap.size) :
    NewR w (w3.setCell ⟨rb, 0, none⟩ vx') rb k (kx + 1) ky vx' vy rd s := by
  have nb : ∀ q, vx'.ownBlock = some q → q ≠ rb ∧ vy.ownBlock ≠ some q ∧ ∀ i, i < k → rd i ≠ q := fun q hq => by
    rcases e with e | e
    · rw [e] at hq; exact h.nx q hq
    · rw [e] at hq
      cases hq
      exact ⟨by have := h.rr.lt; omega, fun e2 => by have := (row_at h.oy e2).2.1; omega, fun i hi => by have := (h.dk i hi).lt; omega⟩
  have kb : ∀ q, q ≠ rb → (w3.setCell ⟨rb, 0, none⟩ vx').heap[q]? = w3.heap[q]? := fun q hq => Below.heap_setCell w3 ⟨rb, 0, none⟩ _ q hq
  rw [ptrL_succ] at hr
  refine ⟨(h.b.grown g h.b.size (fun q hq => (row_at h.ox hq).1)).setCell h.lr _, h.lr, ((h.preX g).set 0 vx').congr (fun j hj => ?_), owns_block hr (fun q hq => kb q (nb q hq).1), owns_block h.oy (fun q hq => (kb q (h.ny q hq).1).trans (g.block q (row_at h.oy hq).2.1 (fun e2 => (h.nx q e2.symm).2.1 hq))), by omega, fun i hi => ?_, h.ld, h.inj, h.nr, nb, h.ny⟩
  · unfold rbF
    by_cases e0 : j = 0
    · rw [if_pos e0, if_pos e0]
    · rw [if_neg e0, if_neg e0, if_neg e0]
  · exact (h.dk i hi).of_block ((kb _ (h.nr i hi)).trans (g.block _ (h.dk i hi).lt (fun e2 => (h.nx _ e2.symm).2.2 i hi rfl)))
theorem NewR.pushY (h : NewR w wr rb k kx ky vx vy rd s) (hr : w3.ownsRow w.heap.size 3 1 vy' (ky + 1) (zrL ky ++ [.int .i64 0])) (g : wr.grownBy w3 vy.ownBlock) (e : vy'.ownBlock = vy.ownBlock ∨ vy'.ownBlock = some wr.heap.size) :
    NewR w (w3.setCell ⟨rb, 1, none⟩ vy') rb k kx (ky + 1) vx vy' rd s := by
  have nb : ∀ q, vy'.ownBlock = some q → q ≠ rb ∧ vx.ownBlock ≠ some q ∧ ∀ i, i < k → rd i ≠ q := fun q hq => by
    rcases e with e | e
    · rw [e] at hq; exact ⟨(h.ny q hq).1, fun e2 => (h.nx q e2).2.1 hq, (h.ny q hq).2⟩
    · rw [e] at hq
      cases hq
      exact ⟨by have := h.rr.lt; omega, fun e2 => by have := (row_at h.ox e2).2.1; omega, fun i hi => by have := (h.dk i hi).lt; omega⟩
  have kb : ∀ q, q ≠ rb → (w3.setCell ⟨rb, 1, none⟩ vy').heap[q]? = w3.heap[q]? := fun q hq => Below.heap_setCell w3 ⟨rb, 1, none⟩ _ q hq
  rw [zrL_succ] at hr
  refine ⟨(h.b.grown g h.b.size (fun q hq => (row_at h.oy hq).1)).setCell h.lr _, h.lr, ((h.preY g).set 1 vy').congr (fun j hj => ?_), owns_block h.ox (fun q hq => (kb q (h.nx q hq).1).trans (g.block q (row_at h.ox hq).2.1 (fun e2 => (h.nx q hq).2.1 e2.symm))), owns_block hr (fun q hq => kb q (nb q hq).1), h.hx, fun i hi => ?_, h.ld, h.inj, h.nr, fun q hq => ⟨(h.nx q hq).1, fun e2 => (nb q e2).2.1 hq, (h.nx q hq).2.2⟩, fun q hq => ⟨(nb q hq).1, (nb q hq).2.2⟩⟩
  · unfold rbF
    by_cases e1 : j = 1
    · subst e1; rfl
    · rw [if_neg e1]
      by_cases e0 : j = 0
      · rw [if_pos e0, if_pos e0]
      · rw [if_neg e0, if_neg e0, if_neg e1, if_neg e1]
  · exact (h.dk i hi).of_block ((kb _ (h.nr i hi)).trans (g.block _ (h.dk i hi).lt (fun e2 => (h.ny _ e2.symm).2 i hi rfl)))
/-- the array is made -/
theorem NewR.done {n : Nat} (h : NewR w wr rb n n n vx vy rd s) (h1 : 1 ≤ n) (h2 : n ≤ 32) (h3 : 1 ≤ s) (h4 : s ≤ 4096) {GA : Nat → Prop} (hG : ∀ k, GA k → k < w.heap.size) :
    ∃ HR, RaAt wr rb HR GA (newA n s.toNat) ∧ ∀ k, HR k → w.heap.size ≤ k := by
  have hl : (newA n s.toNat).D.length = n := by simp [newA]
  obtain ⟨gx, cx, ex, bx, ox⟩ := owns_formD h.ox (by omega)
  obtain ⟨gy, cy, ey, by_, oy⟩ := owns_formD h.oy (by omega)
  subst ex ey
  have nx := h.nx gx rfl
  have ny := h.ny gy rfl
  have hge : ∀ k, (k = rb ∨ k = gx ∨ k = gy ∨ ∃ i, i < n ∧ k = rd i) → w.heap.size ≤ k ∧ k < wr.heap.size := fun k hk => by
    rcases hk with e | e | e | ⟨i, hi, e⟩
    · rw [e]; exact ⟨h.lr, h.rr.lt⟩
    · rw [e]; exact ⟨bx, (row_at h.ox rfl).2.1⟩
    · rw [e]; exact ⟨by_, (row_at h.oy rfl).2.1⟩
    · rw [e]; exact ⟨h.ld i hi, (h.dk i hi).lt⟩
  have hGs : ∀ k, GA k → k < wr.heap.size := fun k hk => Nat.lt_of_lt_of_le (hG k hk) h.b.size
  have hn : ((s.toNat : Nat) : Int) = s := by omega
  refine ⟨fun k => k = rb ∨ k = gx ∨ k = gy ∨ ∃ i, i < n ∧ k = rd i, ⟨gx, gy, cx, cy, rd, ⟨?_, ?_, h.rr.cell (i := 2) (by omega), h.rr.cell (i := 3) (by omega), h.rr.frozen 2, h.rr.frozen 3, fun i hi => ?_, fun i hi => ?_, fun i hi => World.ownsRow.frozenAt oy i, fun i hi => ?_, fun i j hi hj => h.inj i j (hl ▸ hi) (hl ▸ hj), fun i hi => ⟨h.nr i (hl ▸ hi), nx.2.2 i (hl ▸ hi), ny.2 i (hl ▸ hi)⟩, fun e => nx.1 e.symm, fun e => ny.1 e.symm, fun e => nx.2.1 (by rw [e]; rfl), Or.inl rfl, Or.inr (Or.inl rfl), Or.inr (Or.inr (Or.inl rfl)), fun i hi => Or.inr (Or.inr (Or.inr ⟨i, hl ▸ hi, rfl⟩)), fun k hk hg => by have := (hge k hk).1; have := hG k hg; omega, fun k hk => (hge k hk).2, hGs, by rw [hl]; exact h1, by rw [hl]; exact h2, by simp [newA], by simp [newA]; decide⟩, newA_ok h1 h2 (by omega) (by omega)⟩, fun k hk => (hge k hk).1⟩
  · rw [hl]; exact h.rr.cell (i := 0) (by omega)
  · rw [hl]; exact h.rr.cell (i := 1) (by omega)
  · rw [hl] at hi
    rw [World.ownsRow.cellAt ox i (by omega)]
    exact ptrL_at rd hi
  · rw [hl] at hi
    rw [World.ownsRow.cellAt oy i (by omega), zrL_at hi]
    simp only [newA]
    rw [rep_getD hi]
  · rw [hl] at hi
    simp only [newA]
    rw [rep_getD hi]
    have r := h.dk i hi
    refine ⟨.slice none 0 0, .slice none 0 0, [], [], ?_, r.cell (i := 1) (by omega), r.cell (i := 2) (by omega), r.cell (i := 3) (by omega), r.frozen 1, r.frozen 2, r.frozen 3, (heldL_none _).symm, (heldL_none _).symm, told_nil _ _, told_nil _ _, cap_nil, cap_nil, Or.inl (Or.inr (Or.inr (Or.inr ⟨i, hi, rfl⟩))), fun k hk => hk.elim (fun h5 => (hge k h5).2) (hGs k), by show s.toNat ≤ 4096; omega⟩
    rw [r.cell (i := 0) (by omega)]
    show some (Value.int .i64 s) = some (.int .i64 ((s.toNat : Nat) : Int))
    rw [hn]
end
/-- a new array of the document's -/
def NewsR (w : World) (n s : Nat) (GA : Nat → Prop) (e : Ending) (w' : World) : Prop := ∃ rb HR, e = .returned (.tuple #[.pointer (some ⟨rb, 0, none⟩), .int .i64 0]) ∧ RaAt w' rb HR GA (newA n s) ∧ (∀ k, HR k → w.heap.size ≤ k) ∧ Below w.heap.size w w'
theorem laid_r (w : World) : (w.alloc (.cells #[.slice none 0 0, .slice none 0 0, .int .i64 (-1), .bool false] 61)).rowIs w.heap.size 61 4 (rbF (.slice none 0 0) (.slice none 0 0)) :=
  World.rowIs_alloc w #[.slice none 0 0, .slice none 0 0, .int .i64 (-1), .bool false] 61 (rbF (.slice none 0 0) (.slice none 0 0)) (fun i hi => by
    have hi2 : i < 4 := hi
    match i, hi2 with
    | 0, _ => rfl
    | 1, _ => rfl
    | 2, _ => rfl
    | 3, _ => rfl)
theorem lit_after (w : World) (rb : Nat) (v x : Value) (e : Nat) : ((w.setCell ⟨rb, 0, none⟩ v).alloc (.cells #[x] e)).cell? ⟨w.heap.size, 0, none⟩ = some x := by
  have h := World.cell?_alloc_new (w.setCell ⟨rb, 0, none⟩ v) #[x] e 0
  have s : (w.setCell ⟨rb, 0, none⟩ v).heap.size = w.heap.size := by simp
  rw [s] at h
  exact h
set_option maxRecDepth 100000 in
theorem rnewA_any {w : World} {n : Nat} {s : Int} (h1 : 1 ≤ n) (h2 : n ≤ 32) (h3 : 1 ≤ s) (h4 : s ≤ 4096) {GA : Nat → Prop} (hG : ∀ k, GA k → k < w.heap.size) : Calls Tryz.prog 6 #[.int .i64 (n : Int), .int .i64 s] w (NewsR w n s.toNat GA) := by
  have q1 : ¬ (n : Int) < 1 := by omega
  have q2 : ¬ (n : Int) > 32 := by omega
  obtain ⟨i0, hi, hz0, hz1, hz2⟩ := info_parts info_pdisk13
  obtain ⟨j0, hj, hy0, hy1, hy2⟩ := info_parts info_int13
  have LR := laid_r w
  have START : Hid (∃ vx vy rd, NewR w (w.alloc (.cells #[.slice none 0 0, .slice none 0 0, .int .i64 (-1), .bool false] 61)) w.heap.size 0 0 0 vx vy rd s) :=
    ⟨.slice none 0 0, .slice none 0 0, fun _ => 0, belA _ _, Nat.le_refl _, LR, ⟨rfl, Or.inl ⟨rfl, rfl⟩⟩, ⟨rfl, Or.inl ⟨rfl, rfl⟩⟩, Nat.le_refl _, (fun i hi => absurd hi (Nat.not_lt_zero _)), (fun i hi => absurd hi (Nat.not_lt_zero _)), (fun i j hi => absurd hi (Nat.not_lt_zero _)), (fun i hi => absurd hi (Nat.not_lt_zero _)), (fun q hq => by cases hq), (fun q hq => by cases hq)⟩
  clear LR
  go_enter Tryz.func6, Tryz.ntmps6
  go_wp2
  obtain ⟨rb, hrb⟩ : ∃ rb, Hid (rb = w.heap.size) := ⟨_, rfl⟩
  rw [← hrb.out]
  rw [show w.heap.size = rb from hrb.out.symm] at START
  go_loopw [7] (fun i wr => ∃ k : Nat, k ≤ n ∧ i = .int .i64 (k : Int) ∧ ∃ vx vy rd, NewR w wr rb k k k vx vy rd s) (fun i _ => n - (intOf i).toNat)
  case atStart => exact ⟨0, Nat.zero_le _, rfl, by obtain ⟨vx, vy, rd, h⟩ := START.out; exact ⟨vx, vy, rd, by rw [hrb.out] at h ⊢; exact h⟩⟩
  case round =>
    clear START
    obtain ⟨k, hk, rfl, vx, vy, rd, hN⟩ := hrel
    by_cases hlt : k < n
    · have hlt' : (k : Int) < (n : Int) := by omega
      have g1 : IntKind.i64.wrap ((k : Int) + 1) = ((k + 1 : Nat) : Int) := by rw [IntKind.wrap_i64]; omega
      go_wp2_with fail
      refine (rnew_any h3 h4).mono ?_
      rintro _ w1 ⟨rfl, hw1⟩
      have N1 := hN.disk
      rw [← hw1] at N1
      obtain ⟨d, hd⟩ : ∃ d, Hid (d = wr.heap.size) := ⟨_, rfl⟩
      have hrk : Hid ((fun i => if i = k then wr.heap.size else rd i) k = d) := by show (if k = k then wr.heap.size else rd k) = d; rw [if_pos rfl, hd.out]
      obtain ⟨rd1, hrd1⟩ : ∃ rd1, rd1 = (fun i => if i = k then wr.heap.size else rd i) := ⟨_, rfl⟩
      rw [← hrd1] at N1 hrk
      rw [← hd.out]
      clear hN hw1 hrd1 hd
      have c0 := N1.rr.cell (i := 0) (by omega)
      rw [show rbF vx vy 0 = vx from rfl] at c0
      have N2 := N1.alloc (.cells #[.pointer (some ⟨d, 0, none⟩)] 62)
      obtain ⟨xa, xc, rfl⟩ := owns_slice N1.ox
      have kd : k < k + 1 := Nat.lt_succ_self k
      have hdd : Hid (∀ X : Value, X = .pointer (some ⟨d, 0, none⟩) → X = .pointer (some ⟨rd1 k, 0, none⟩)) := fun X hX => by rw [hX, hrk.out]
      obtain ⟨ya, yc, rfl⟩ := owns_slice N1.oy
      go_wp2_with (first
        | (at_builtin; (refine wpList_append_v _ rfl (.tmp 35) (.tmp 37) 58 rfl w.heap.size 62 i0 (.pointer none) 8 Tryz.underlying58 hi hz0 hz1 hz2 rfl (by decide) (.slice xa k xc) k (ptrL rd1 k) rfl N2.ox w1.heap.size 1 (.pointer (some ⟨d, 0, none⟩)) rfl (World.cell?_alloc_new _ _ _ 0) rfl (by omega) N2.b.size ?_); intro vx' w3 h3x g3 e3; have d0 := (N2.preX g3).cell (i := 0) (by omega); have f0 := (N2.preX g3).frozen 0; have d1 := (N2.preX g3).cell (i := 1) (by omega); rw [show rbF (.slice xa k xc) (.slice ya k yc) 1 = .slice ya k yc from rfl] at d1; rw [hdd.out _ rfl] at h3x; have N4 := N2.pushX kd h3x g3 e3; have N5 := N4.alloc (.cells #[.int .i64 0] 3); obtain ⟨xa', xc', rfl⟩ := owns_slice h3x)
        | (at_builtin; (refine wpList_append_v _ rfl (.tmp 45) (.tmp 46) 59 rfl w.heap.size 3 j0 (.int .i64 0) 8 Tryz.underlying59 hj hy0 hy1 hy2 rfl (by decide) (.slice ya k yc) k (zrL k) rfl N5.oy w3.heap.size 1 (.int .i64 0) rfl (lit_after _ _ _ _ _) rfl (by omega) N5.b.size ?_); intro vy' w6 h6y g6 e6; have c6 := (N5.preY g6).cell (i := 1) (by omega); have f6 := (N5.preY g6).frozen 1; have N7 := N5.pushY h6y g6 e6; obtain ⟨ya', yc', rfl⟩ := owns_slice h6y))
      have E7 : Hid (∃ vx vy rd, NewR w (w6.setCell ⟨rb, 1, none⟩ (.slice ya' (k + 1) yc')) rb (k + 1) (k + 1) (k + 1) vx vy rd s) := ⟨_, _, _, N7⟩
      clear N7 N5 N4 N2 N1 h3x g3 e3 h6y g6 e6
      go_roundw
      case rel => exact ⟨k + 1, by omega, by go_num, E7.out⟩
      case measure => simp [intOf]; omega
    · have hlt' : ¬ (k : Int) < (n : Int) := by omega
      obtain rfl : k = n := by omega
      have FIN : Hid (∃ HR, (RaAt wr rb HR GA (newA k s.toNat) ∧ ∀ q, HR q → w.heap.size ≤ q) ∧ Below w.heap.size w wr) := by
        obtain ⟨HR, h5⟩ := hN.done h1 h2 h3 h4 hG
        exact ⟨HR, h5, hN.b⟩
      clear hN
      go_wp2
      refine bodyPost_ret (v := .tuple #[.pointer (some ⟨rb, 0, none⟩), .int .i64 0]) (by simp [results, Tryz.results6, go_sem]) rfl ?_
      obtain ⟨HR, ⟨h5, h6⟩, h7⟩ := FIN.out
      exact ⟨rb, HR, rfl, h5, h6, h7⟩
end Go.Proofs.YtgahaebfgmbckaaGreat.Gf
