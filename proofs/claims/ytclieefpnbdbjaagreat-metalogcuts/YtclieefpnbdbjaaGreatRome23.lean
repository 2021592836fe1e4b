/- TEXTS JOINED: ReCD, ReInt, ReStN. -/
import Derived.Test.YtclieefpnbdbjaaGreatRome22
namespace Go.Proofs.YtclieefpnbdbjaaGreat.Gf
set_option linter.unusedVariables false
set_option linter.unusedSimpArgs false
open Go.RowKit
/-- a reading that gave up -/
def pz16 : List PanicEntry := [{ v := .iface 28 (.int .i64 160), recovered := false }]
set_option maxRecDepth 100000 in
theorem ask16_yes {w : World} {x : Bool} (hx : x = true) : Calls Tryz.prog 183 #[.bool x] w fun e w' => e = .returned (.tuple #[]) ∧ w' = w := by
  subst hx
  go_enter Tryz.func183, Tryz.ntmps183
  go_wp2
  go_end0
  exact ⟨rfl, rfl⟩
set_option maxRecDepth 100000 in
theorem ask16_no {w : World} {x : Bool} (hx : x = false) : Calls Tryz.prog 183 #[.bool x] w fun e w' => e = .panicked pz16 ∧ w' = w := by
  subst hx
  go_enter Tryz.func183, Tryz.ntmps183
  go_wp2
  exact ⟨rfl, rfl, rfl⟩
/-- a reader at block rb: what is left to read lies in memory that w0 has -/
structure RdrAt (w0 : World) (rb : Nat) (w : World) (p : List UInt8) : Prop where
  at0 : ∃ v, w.cell? ⟨rb, 0, none⟩ = some v ∧ Rd w0 v p
  fz : w.frozen? ⟨rb, 0, none⟩ = false
  bl : Below w0.heap.size w0 w
  lo : w0.heap.size ≤ rb
theorem RdrAt.only {w0 : World} {rb g : Nat} {w w' : World} {p : List UInt8} (h : RdrAt w0 rb w p) (o : Only g w w') (hg : w0.heap.size ≤ g) (hne : g ≠ rb) : RdrAt w0 rb w' p := by
  obtain ⟨v, c, R⟩ := h.at0
  exact ⟨⟨v, (o.cell (p := ⟨rb, 0, none⟩) (fun e => hne e.symm)).trans c, R⟩, (o.frozen (p := ⟨rb, 0, none⟩) (fun e => hne e.symm)).trans h.fz, h.bl.trans (o.below hg), h.lo⟩
theorem RdrAt.lt {w0 : World} {rb : Nat} {w : World} {p : List UInt8} (h : RdrAt w0 rb w p) : rb < w.heap.size := by
  obtain ⟨v, c, R⟩ := h.at0
  exact World.block_lt_of_cell? _ _ c
theorem RdrAt.below {w0 : World} {rb : Nat} {w w' : World} {p : List UInt8} (h : RdrAt w0 rb w p) (o : Below w.heap.size w w') : RdrAt w0 rb w' p := by
  obtain ⟨v, c, R⟩ := h.at0
  have l := h.lt
  exact ⟨⟨v, (o.cell (p := ⟨rb, 0, none⟩) l).trans c, R⟩, (o.frozen (p := ⟨rb, 0, none⟩) l).trans h.fz, h.bl.trans (o.mono h.bl.size), h.lo⟩
/-- bytes that are taken, and the reader behind them -/
def Takes16 (w0 : World) (rb : Nat) (w : World) (q r : List UInt8) (e : Ending) (w' : World) : Prop := ∃ u, e = .returned u ∧ Rd w0 u q ∧ RdrAt w0 rb w' r ∧ Only rb w w'
set_option maxRecDepth 100000 in
set_option maxHeartbeats 1000000 in
theorem take16_yes {w0 w : World} {rb : Nat} {p : List UInt8} (h : RdrAt w0 rb w p) {n : Nat} (hn : n ≤ p.length) {z : Int} (hz : z = (n : Int)) : Calls Tryz.prog 192 #[.pointer (some ⟨rb, 0, none⟩), .int .i64 z] w (Takes16 w0 rb w (p.take n) (p.drop n)) := by
  subst hz
  obtain ⟨v, c, R⟩ := h.at0
  obtain ⟨a, cp, rfl⟩ := R.form
  have hn' : (n : Int) ≤ (p.length : Int) := by omega
  have E1 := fun W => cut_hi16 W a (n := p.length) (c := cp) (k := n) (Nat.le_trans hn (rd_cap R).2)
  have E2 := fun W => cut_lo16 W a (n := p.length) (c := cp) (k := n) hn
  obtain ⟨a2, ha2⟩ : ∃ a2, a2 = (if cp = n then a else a.map (·.add n)) := ⟨_, rfl⟩
  have R2 : Rd w0 (.slice a2 (p.length - n) (cp - n)) (p.drop n) := by rw [ha2]; exact R.rest16 hn
  rw [← ha2] at E2
  generalize p.length - n = n2 at E2 R2
  generalize cp - n = c2 at E2 R2
  have fz := h.fz
  have HF : Hid (Takes16 w0 rb w (p.take n) (p.drop n) (.returned (.slice a n cp)) (w.setCell ⟨rb, 0, none⟩ (.slice a2 n2 c2))) := by
    have O : Only rb w (w.setCell ⟨rb, 0, none⟩ (.slice a2 n2 c2)) := (Only.refl _ _).setCell _ _
    exact ⟨_, rfl, R.first16 hn, ⟨⟨_, World.cell?_setCell_same _ _ _ c, R2⟩, (World.frozen?_setCell _ _ _ _).trans h.fz, h.bl.trans (O.below h.lo), h.lo⟩, O⟩
  generalize p.length = m at c E1 E2 hn' hn
  clear ha2 R h R2
  go_enter Tryz.func192, Tryz.ntmps192
  go_wp2_with fail
  refine (ask16_yes rfl).mono ?_
  rintro _ _ ⟨rfl, rfl⟩
  go_wp2
  go_ret
  exact HF.out
set_option maxRecDepth 100000 in
set_option maxHeartbeats 1000000 in
theorem take16_no {w0 w : World} {rb : Nat} {p : List UInt8} (h : RdrAt w0 rb w p) {n : Nat} (hn : p.length < n) {z : Int} (hz : z = (n : Int)) : Calls Tryz.prog 192 #[.pointer (some ⟨rb, 0, none⟩), .int .i64 z] w fun e w' => e = .panicked pz16 ∧ w' = w := by
  subst hz
  obtain ⟨v, c, R⟩ := h.at0
  obtain ⟨a, cp, rfl⟩ := R.form
  have hn' : ¬ (n : Int) ≤ (p.length : Int) := by omega
  generalize p.length = m at c hn' hn
  clear R h
  go_enter Tryz.func192, Tryz.ntmps192
  go_wp2_with fail
  refine (ask16_no rfl).mono ?_
  rintro _ _ ⟨rfl, rfl⟩
  exact ⟨rfl, rfl, rfl⟩
/-- the number of bytes, the highest first -/
def nuL (l : List UInt8) : Nat := l.foldl (fun n x => n * 256 + x.toNat) 0
theorem nuL_snoc (l : List UInt8) (x : UInt8) : nuL (l ++ [x]) = nuL l * 256 + x.toNat := by
  unfold nuL
  rw [List.foldl_append]; rfl
theorem nuL_acc (l : List UInt8) (a : Nat) : l.foldl (fun n x => n * 256 + x.toNat) a < (a + 1) * 256 ^ l.length := by
  induction l generalizing a with
  | nil => show a < (a + 1) * 1; omega
  | cons x l ih =>
    have h := ih (a * 256 + x.toNat)
    have hx := x.toNat_lt
    rw [List.foldl_cons, List.length_cons, Nat.pow_succ, Nat.mul_comm (256 ^ l.length), ← Nat.mul_assoc]
    exact Nat.lt_of_lt_of_le h (Nat.mul_le_mul_right _ (by omega))
theorem nuL_lt (l : List UInt8) : nuL l < 256 ^ l.length := by
  have := nuL_acc l 0
  rw [Nat.zero_add, Nat.one_mul] at this
  exact this
theorem or16 (a : Nat) (x : UInt8) (ha : a < 16777216) : bits .or .i64 ((a : Int) * 256) ((x.toNat : Nat) : Int) = ((a * 256 + x.toNat : Nat) : Int) := by
  have hx := x.toNat_lt
  have e : (a * 256) ||| x.toNat = a * 256 + x.toNat := by
    have := Nat.two_pow_add_eq_or_of_lt (i := 8) (b := x.toNat) hx a
    rw [Nat.mul_comm a 256]
    exact this.symm
  show IntKind.i64.wrap ((BitVec.ofInt 64 ((a : Int) * 256) ||| BitVec.ofInt 64 ((x.toNat : Nat) : Int)).toNat : Int) = _
  rw [show ((a : Int) * 256) = ((a * 256 : Nat) : Int) by omega, BitVec.toNat_or, ofInt_u64 (a * 256) (by omega), ofInt_u64 x.toNat (by omega), e, IntKind.wrap_i64]
  omega
set_option maxRecDepth 100000 in
set_option maxHeartbeats 1000000 in
theorem rnum16_yes {w0 w : World} {rb : Nat} {p : List UInt8} (h : RdrAt w0 rb w p) {k : Nat} (hk : k ≤ 4) (hn : k ≤ p.length) {z : Int} (hz : z = (k : Int)) {N : Int} (hN : ((nuL (p.take k) : Nat) : Int) = N) : Calls Tryz.prog 185 #[.pointer (some ⟨rb, 0, none⟩), .int .i64 z] w fun e w' => e = .returned (.int .i64 N) ∧ RdrAt w0 rb w' (p.drop k) ∧ Only rb w w' := by
  have K := take16_yes h hn rfl
  subst hz
  go_enter Tryz.func185, Tryz.ntmps185
  go_wp2_with fail
  refine K.mono ?_
  rintro _ w1 ⟨u, rfl, R, H1, O1⟩
  clear K h
  have hl : (p.take k).length = k := by rw [List.length_take]; omega
  have HN : Hid (((nuL (p.take k) : Nat) : Int) = N) := hN
  have HF : Hid (RdrAt w0 rb w1 (p.drop k) ∧ Only rb w w1) := ⟨H1, O1⟩
  have R1 := R.below H1.bl
  clear hN H1 O1 R
  generalize p.take k = q at hl R1 HN
  obtain ⟨a, cp, rfl⟩ := R1.form
  go_wp2
  go_loopw [5, 12] (fun n i wr => ∃ r : Nat, r ≤ q.length ∧ n = .int .i64 ((nuL (q.take r) : Nat) : Int) ∧ i = .int .i64 (r : Int) ∧ wr = w1) (fun _ i _ => q.length - (intOf i).toNat)
  case atStart => exact ⟨0, Nat.zero_le _, rfl, rfl, rfl⟩
  case round =>
    obtain ⟨r, hr, rfl, rfl, rfl⟩ := hrel
    by_cases hlt : r < q.length
    · have hlt' : (r : Int) < (q.length : Int) := by omega
      obtain ⟨b, off, rfl, _, cz⟩ := R1.byte hlt
      have hs : Hid (nuL (q.take (r + 1)) = nuL (q.take r) * 256 + (co q r).toNat) := by
        have e : co q r = q[r] := by unfold co; simp [List.getElem?_eq_getElem hlt]
        show _ = _
        rw [List.take_succ_eq_append_getElem hlt, nuL_snoc, e]
      have hb : nuL (q.take r) < 16777216 := by
        have h1 := nuL_lt (q.take r)
        rw [List.length_take, Nat.min_eq_left hr] at h1
        exact Nat.lt_of_lt_of_le h1 (Nat.le_trans (Nat.pow_le_pow_right (by omega) (show r ≤ 3 by omega)) (by decide))
      generalize co q r = x at cz hs
      have E := or16 _ x hb
      generalize nuL (q.take r) = n at hs hb E
      have ew : wrap64 ((x.toNat : Nat) : Int) = ((x.toNat : Nat) : Int) := by have := x.toNat_lt; unfold wrap64; omega
      generalize hm : n * 256 + x.toNat = m at E hs
      have HS : Hid (nuL (q.take (r + 1)) = m) := hs.out
      clear hs hm
      go_wp2
      go_roundw
      case rel => exact ⟨r + 1, by omega, by rw [HS.out, ← E], by go_num, by first | rfl | trivial⟩
      case measure => simp [intOf]; omega
    · obtain rfl : r = q.length := by omega
      have hge : ¬ (q.length : Int) < (q.length : Int) := by omega
      rw [List.take_length]
      go_wp2
      go_ret
      exact ⟨congrArg (fun t => Ending.returned (.int .i64 t)) HN.out, HF.out.1, HF.out.2⟩
set_option maxRecDepth 100000 in
set_option maxHeartbeats 1000000 in
theorem rnum16_no {w0 w : World} {rb : Nat} {p : List UInt8} (h : RdrAt w0 rb w p) {k : Nat} (hn : p.length < k) {z : Int} (hz : z = (k : Int)) : Calls Tryz.prog 185 #[.pointer (some ⟨rb, 0, none⟩), .int .i64 z] w fun e w' => e = .panicked pz16 ∧ w' = w := by
  have K := take16_no h hn rfl
  subst hz
  go_enter Tryz.func185, Tryz.ntmps185
  go_wp2_with fail
  refine K.mono ?_
  rintro _ _ ⟨rfl, rfl⟩
  exact ⟨rfl, rfl, rfl⟩
end Go.Proofs.YtclieefpnbdbjaaGreat.Gf

namespace Go.Proofs.YtclieefpnbdbjaaGreat.Gf
set_option linter.unusedVariables false
set_option linter.unusedSimpArgs false
open Go.RowKit
def vz (z : Int) : Value := .int .i64 z
def OwnZ (w : World) (base e : Nat) (v : Value) (zs : List Int) : Prop := w.ownsRow base e 1 v zs.length (zs.map vz)
theorem OwnZ.cell {w : World} {base e : Nat} {a : Option Addr} {n c : Nat} {zs : List Int} (h : OwnZ w base e (.slice a n c) zs) {i : Nat} (hi : i < zs.length) : ∃ g, a = some ⟨g, 0, none⟩ ∧ g < w.heap.size ∧ base ≤ g ∧ w.cell? ⟨g, i, none⟩ = some (.int .i64 (zs.getD i 0)) := by
  have h' := h
  obtain ⟨_, ⟨e, hn⟩ | ⟨g, cap, cur, e, hg, hh, hc, hm, hs, ht⟩⟩ := h
  · omega
  · simp at e
    obtain ⟨rfl, rfl, rfl⟩ := e
    have hlt := World.ownsRow.lt h' g rfl
    refine ⟨g, rfl, hlt.2, hlt.1, ?_⟩
    rw [World.ownsRow.cellAt h' i (by omega), List.getElem?_map, List.getElem?_eq_getElem hi]
    simp [vz, List.getD, hi]
theorem OwnZ.rd {w : World} {base e : Nat} {v : Value} {zs : List Int} (h : OwnZ w base e v zs) (hl : zs.length ≤ 1000000) : RdI w v zs := by
  obtain ⟨a, c, rfl⟩ := owns_form h
  by_cases h0 : zs = []
  · subst h0; exact Or.inl ⟨a, c, rfl, rfl⟩
  · have hpos : 0 < zs.length := List.length_pos_iff.2 h0
    obtain ⟨g, rfl, hg, _, _⟩ := h.cell hpos
    refine Or.inr ⟨g, 0, c, h0, rfl, by unfold maxLen; omega, hg, fun i hi => ?_⟩
    obtain ⟨g', e, _, _, hc⟩ := h.cell hi
    simp at e
    subst e
    rw [Nat.zero_add, hc]
theorem OwnZ.nil (w : World) (base e : Nat) : OwnZ w base e (.slice none 0 0) [] := World.ownsRow_nil _ _ _ _
theorem info_int16 : (Tryz.prog.info? 3).map (fun i => (i.zero, i.size, i.bytes)) = some (some (.int .i64 0), 1, 8) := by kernel_rfl
theorem info_int16' : ∃ i, Tryz.prog.info? 3 = some i ∧ i.zero = some (.int .i64 0) ∧ i.size = 1 ∧ i.bytes = 8 := by
  have h := info_int16
  cases e : Tryz.prog.info? 3 with
  | none => rw [e] at h; cases h
  | some i =>
    rw [e] at h
    simp only [Option.map_some, Option.some.injEq, Prod.mk.injEq] at h
    exact ⟨i, rfl, h.1, h.2.1, h.2.2⟩
/-- 'append(s, x)' of one integer, x laid as a list of one, as a run -/
theorem run_append_z {w W : World} {base : Nat} {v : Value} {zs : List Int} {z : Int} (ty : TypeId) (hO : OwnZ w base 3 v zs) (hW : W = w.alloc (.cells #[.int .i64 z] 3)) {b : Nat} (hb : b = w.heap.size) (hl : zs.length ≤ 100000) (hbase : base ≤ w.heap.size) :
    ∃ v' w', (Builtin.append_ #[35, 35] ty #[v, .slice (some ⟨b, 0, none⟩) 1 1]).run Tryz.prog W = .ok v' w' ∧ OwnZ w' base 3 v' (zs ++ [z]) ∧ Gro w v w' v' := by
  subst hW hb
  obtain ⟨i, hi, hz, hs, hy⟩ := info_int16'
  obtain ⟨v', w', hrun, h2, h3, _, h5⟩ := run_append_own_at (P := Tryz.prog) (w.alloc (.cells #[.int .i64 z] 3)) base 35 ty 3 i (.int .i64 0) 1 8 Tryz.underlying35 hi hz hs hy rfl (by decide) v zs.length (zs.map vz) (World.ownsRow.alloc hO _) ⟨w.heap.size, 0, none⟩ 1 1 [vz z] rfl (by intro j y hj; rw [add_at, Nat.zero_add]; rcases j with _ | j <;> simp at hj; subst hj; simp [vz]) (by intro y hy; simp at hy; rw [hy]; rfl) (by unfold maxLen; omega) (by omega) (by simp; omega)
  refine ⟨v', w', hrun, ?_, (Gro.bel v (belR w _)).trans (Gro.of h3 h5)⟩
  unfold OwnZ
  rw [List.length_append, List.map_append]
  exact h2
theorem step_append_z {w W : World} {base : Nat} {v : Value} {zs : List Int} {z : Int} {ops : Array Oper} {o : Oper} {a : Act} {K : Act → World → Prop} {Q : Exit → Act → World → Prop} {E : Prop} (hgd : o.guard = none) (s x : Operand)
    (ho : o.op = .call { callee := .builtin .append, args := #[s, x], argTypes := #[35, 35] }) {b : Nat} (hs : a.eval s = v) (hx : a.eval x = .slice (some ⟨b, 0, none⟩) 1 1)
    (hO : OwnZ w base 3 v zs) (hW : W = w.alloc (.cells #[.int .i64 z] 3)) (hb : b = w.heap.size) (hl : zs.length ≤ 100000) (hbase : base ≤ w.heap.size)
    (h : ∀ v' w', OwnZ w' base 3 v' (zs ++ [z]) → Gro w v w' v' → K (a.put o.dst v') w') :
    if Region.wanted o (yielded ops a.tmps) = true then Oper.wp Tryz.prog o a W K Q else E := by
  have hw : Region.wanted o (yielded ops a.tmps) = true := by simp [Region.wanted, hgd]
  rw [if_pos hw]
  obtain ⟨v', w', hrun, h2, h3⟩ := run_append_z (z := z) o.type hO hW hb hl hbase
  unfold Oper.wp execOp
  simp only [ho, resolve, invoke, builtin, Sem.run_bind, Sem.run_pure, Result.andThen_ok, List.map_toArray, List.map_cons, List.map_nil, hs, hx, hrun]
  exact h v' w' h2 h3
theorem OwnZ.only {w w' : World} {base e g : Nat} {v : Value} {zs : List Int} (h : OwnZ w base e v zs) (o : Only g w w') (hg : g < base) : OwnZ w' base e v zs := by
  obtain ⟨h0, h | ⟨g2, cap, cur, hv, hgg, hh, r⟩⟩ := h
  · exact ⟨h0, Or.inl h⟩
  · exact ⟨h0, Or.inr ⟨g2, cap, cur, hv, hgg, by rw [o.block g2 (by omega)]; exact hh, r⟩⟩
end Go.Proofs.YtclieefpnbdbjaaGreat.Gf

namespace Go.Proofs.YtclieefpnbdbjaaGreat.Gf
set_option linter.unusedVariables false
set_option linter.unusedSimpArgs false
open Go.RowKit
theorem stN_succ (r : Nat) (b : List UInt8) : stN (r + 1) b = stN r b ++ [((un (b.drop (2 * r)) : Nat) : Int)] := by
  induction r generalizing b with
  | zero => rfl
  | succ r ih =>
    show ((un b : Nat) : Int) :: stN (r + 1) (b.drop 2) = ((un b : Nat) : Int) :: (stN r (b.drop 2) ++ _)
    rw [ih, List.drop_drop, show 2 + 2 * r = 2 * (r + 1) by omega]
theorem wf64 {z : Int} (h0 : -9223372036854775808 ≤ z) (h1 : z ≤ 9223372036854775807) : (Lit.int .i64 z).wf = true := by
  simp [Lit.wf, IntKind.min, IntKind.max, IntKind.signed, IntKind.bits]
  omega
theorem stN_wf (n : Nat) (b : List UInt8) : ∀ z ∈ stN n b, (Lit.int .i64 z).wf = true := by
  induction n generalizing b with
  | zero => intro z hz; cases hz
  | succ n ih =>
    intro z hz
    rcases List.mem_cons.1 hz with rfl | hz
    · have := un_lt b; exact wf64 (by omega) (by omega)
    · exact ih _ z hz
end Go.Proofs.YtclieefpnbdbjaaGreat.Gf
