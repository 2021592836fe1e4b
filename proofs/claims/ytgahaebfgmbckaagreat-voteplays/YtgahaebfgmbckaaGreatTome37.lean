/- TEXTS JOINED: VoSd, VoRefA, VoRefB. -/
import Derived.Test.YtgahaebfgmbckaaGreatTome28
import Derived.Test.YtgahaebfgmbckaaGreatTome9
namespace Go.Proofs.YtgahaebfgmbckaaGreat.Gf
set_option linter.unusedVariables false
set_option linter.unusedSimpArgs false
open Go.RowKit
/-- what a disk says, and its slice -/
structure SaV where
  s : SaS
  vs : Value
instance : Inhabited SaV := ⟨⟨default, .slice none 0 0⟩⟩
def sL (L : List SaV) : List SaS := L.map SaV.s
theorem sL_length (L : List SaV) : (sL L).length = L.length := by simp [sL]
theorem sL_at (L : List SaV) (i : Nat) : sF (sL L) i = (L.getD i default).s := by
  unfold sF sL
  by_cases h : i < L.length
  · simp [List.getD, h]
  · simp [List.getD, Nat.le_of_not_lt h]; rfl
structure SaAt (w : World) (b off : Nat) (c : SaV) : Prop where
  c0 : w.cell? ⟨b, off, none⟩ = some (.bool c.s.is)
  c1 : w.cell? ⟨b, off + 1, none⟩ = some (.bool c.s.no)
  c2 : w.cell? ⟨b, off + 2, none⟩ = some (.int .i64 c.s.ep)
  c3 : w.cell? ⟨b, off + 3, none⟩ = some c.vs
  rd : Rd w c.vs c.s.da
theorem SaAt.below {w w' : World} {b off : Nat} {c : SaV} (h : SaAt w b off c) (hb : b < w.heap.size) (hw : Below w.heap.size w w') : SaAt w' b off c :=
  ⟨(hw.cell (p := ⟨b, off, none⟩) hb).trans h.c0, (hw.cell (p := ⟨b, off + 1, none⟩) hb).trans h.c1, (hw.cell (p := ⟨b, off + 2, none⟩) hb).trans h.c2, (hw.cell (p := ⟨b, off + 3, none⟩) hb).trans h.c3, h.rd.below hw⟩
def RdSa (w : World) (v : Value) (L : List SaV) : Prop :=
  (∃ ao cap, L = [] ∧ v = .slice ao 0 cap) ∨ (∃ b off cap, L ≠ [] ∧ v = .slice (some ⟨b, off, none⟩) L.length cap ∧ L.length ≤ maxLen ∧ b < w.heap.size ∧ ∀ i, i < L.length → SaAt w b (off + i * 4) (L.getD i default))
theorem RdSa.below {w w' : World} {v : Value} {L : List SaV} (h : RdSa w v L) (hb : Below w.heap.size w w') : RdSa w' v L := by
  rcases h with h | ⟨b, off, cap, h1, h2, h3, h5, h6⟩
  · exact Or.inl h
  · exact Or.inr ⟨b, off, cap, h1, h2, h3, Nat.lt_of_lt_of_le h5 hb.size, fun i hi => (h6 i hi).below h5 hb⟩
theorem RdSa.form {w : World} {v : Value} {L : List SaV} (h : RdSa w v L) : ∃ a c, v = .slice a L.length c := by
  rcases h with ⟨a, c, rfl, rfl⟩ | ⟨b, off, c, _, rfl, _⟩
  · exact ⟨a, c, rfl⟩
  · exact ⟨_, c, rfl⟩
theorem RdSa.at {w : World} {a : Option Addr} {n c : Nat} {L : List SaV} (h : RdSa w (.slice a n c) L) {i : Nat} (hi : i < L.length) : ∃ b off, a = some ⟨b, off, none⟩ ∧ b < w.heap.size ∧ SaAt w b (off + i * 4) (L.getD i default) := by
  rcases h with ⟨_, _, h1, _⟩ | ⟨b, off, cp, h1, h2, h3, h5, h6⟩
  · rw [h1] at hi; simp at hi
  · simp at h2
    exact ⟨b, off, h2.1, h5, h6 i hi⟩
def fourS (c : SaV) : List Value := [.bool c.s.is, .bool c.s.no, .int .i64 c.s.ep, c.vs]
def cellsS : List SaV → List Value
  | [] => []
  | c :: L => fourS c ++ cellsS L
theorem cellsS_append (L M : List SaV) : cellsS (L ++ M) = cellsS L ++ cellsS M := by
  induction L with
  | nil => rfl
  | cons c L ih => show fourS c ++ cellsS (L ++ M) = fourS c ++ cellsS L ++ cellsS M; rw [ih, List.append_assoc]
theorem cellsS_at (L : List SaV) {i j : Nat} (hi : i < L.length) (hj : j < 4) : (cellsS L)[i * 4 + j]? = (fourS (L.getD i default))[j]? := by
  induction L generalizing i with
  | nil => simp at hi
  | cons c L ih =>
    show (fourS c ++ cellsS L)[i * 4 + j]? = _
    have h4 : (fourS c).length = 4 := rfl
    rcases i with _ | i
    · rw [List.getElem?_append_left (by rw [h4]; omega), Nat.zero_mul, Nat.zero_add]; rfl
    · rw [List.getElem?_append_right (by rw [h4]; omega), h4, show (i + 1) * 4 + j - 4 = i * 4 + j by omega, ih (by simpa using hi)]
      rfl
/-- a slice of bytes in blocks of the call's own, besides v's -/
def NearV (base lim : Nat) (v u : Value) : Prop := ∀ x n c, u = .slice (some x) n c → n = 0 ∨ (base ≤ x.block ∧ x.block < lim ∧ v.ownBlock ≠ some x.block)
structure OwnSa (w : World) (base : Nat) (v : Value) (L : List SaV) : Prop where
  row : w.ownsRow base 104 4 v L.length (cellsS L)
  ea : ∀ c ∈ L, Rd w c.vs c.s.da
  ap : ∀ c ∈ L, NearV base w.heap.size v c.vs
theorem OwnSa.nil (w : World) (base : Nat) : OwnSa w base (.slice none 0 0) [] := ⟨World.ownsRow_nil _ _ _ _, (fun c hc => by cases hc), (fun c hc => by cases hc)⟩
theorem OwnSa.rd {w : World} {base : Nat} {v : Value} {L : List SaV} (h : OwnSa w base v L) (hl : L.length ≤ 1000000) : RdSa w v L := by
  by_cases h0 : L = []
  · subst h0
    obtain ⟨_, ⟨e, _⟩ | ⟨g, cap, cur, e, _⟩⟩ := h.row
    · exact Or.inl ⟨none, 0, rfl, e⟩
    · exact Or.inl ⟨_, cap, rfl, e⟩
  · have hpos : 0 < L.length := List.length_pos_iff.2 h0
    have hr := h.row
    obtain ⟨_, ⟨e, hn⟩ | ⟨g, cap, cur, rfl, hg, hh, hc, hm, hs, ht⟩⟩ := h.row
    · omega
    · refine Or.inr ⟨g, 0, cap, h0, rfl, by unfold maxLen; omega, (World.ownsRow.lt hr g rfl).2, fun i hi => ?_⟩
      have hmem : L.getD i default ∈ L := by rw [List.getD_eq_getElem?_getD, List.getElem?_eq_getElem hi]; exact List.getElem_mem hi
      have cc : ∀ j, j < 4 → w.cell? ⟨g, i * 4 + j, none⟩ = (fourS (L.getD i default))[j]? := fun j hj => (World.ownsRow.cellAt hr (i * 4 + j) (by omega)).trans (cellsS_at L hi hj)
      refine ⟨?_, ?_, ?_, ?_, h.ea _ hmem⟩
      · rw [Nat.zero_add]; exact cc 0 (by omega)
      · rw [Nat.zero_add]; exact cc 1 (by omega)
      · rw [Nat.zero_add]; exact cc 2 (by omega)
      · rw [Nat.zero_add]; exact cc 3 (by omega)
theorem row_later17 {w w' : World} {base e s n : Nat} {v : Value} {xs : List Value} (h : w.ownsRow base e s v n xs) (t : Below w.heap.size w w') : w'.ownsRow base e s v n xs := by
  obtain ⟨h0, h | ⟨g2, cap, cur, hv, hgg, hh, r⟩⟩ := h
  · exact ⟨h0, Or.inl h⟩
  · have hlt : g2 < w.heap.size := (Array.getElem?_eq_some_iff.1 hh).1
    exact ⟨h0, Or.inr ⟨g2, cap, cur, hv, hgg, by rw [t.block g2 hlt]; exact hh, r⟩⟩
theorem NearV.mono {base lim lim' : Nat} {v u : Value} (h : NearV base lim v u) (hl : lim ≤ lim') : NearV base lim' v u := fun x n c e => (h x n c e).imp id fun q => ⟨q.1, by omega, q.2.2⟩
theorem OwnSa.later {w w' : World} {base : Nat} {v : Value} {L : List SaV} (h : OwnSa w base v L) (t : Below w.heap.size w w') : OwnSa w' base v L :=
  ⟨row_later17 h.row t, fun c hc => (h.ea c hc).below t, fun c hc => (h.ap c hc).mono t.size⟩
theorem Rd.groV {w w' : World} {base lim : Nat} {v v' x : Value} {p : List UInt8} (h : Rd w x p) (g : Gro w v w' v') (hn : NearV base lim v x) : Rd w' x p := by
  rcases h with h | ⟨b, off, cap, h1, rfl, h3, h4, h5, h6⟩
  · exact Or.inl h
  · have hp : p.length ≠ 0 := fun e => h1 (List.length_eq_zero_iff.1 e)
    have ne := ((hn _ _ _ rfl).resolve_left hp).2.2
    exact Or.inr ⟨b, off, cap, h1, rfl, h3, h4, Nat.lt_of_lt_of_le h5 g.gr.size, fun i hi => (g.cell (p := ⟨b, off + i, none⟩) h5 ne).trans (h6 i hi)⟩
theorem info_said : (Tryz.prog.info? 104).map (fun i => (i.zero, i.size, i.bytes)) = some (some (.agg #[.bool false, .bool false, .int .i64 0, .slice none 0 0]), 4, 40) := by kernel_rfl
theorem info_said' : ∃ i, Tryz.prog.info? 104 = some i ∧ i.zero = some (.agg #[.bool false, .bool false, .int .i64 0, .slice none 0 0]) ∧ i.size = 4 ∧ i.bytes = 40 := by
  have h := info_said
  cases e : Tryz.prog.info? 104 with
  | none => rw [e] at h; cases h
  | some i =>
    rw [e] at h
    simp only [Option.map_some, Option.some.injEq, Prod.mk.injEq] at h
    exact ⟨i, rfl, h.1, h.2.1, h.2.2⟩
/-- 'append(l, s)', as a run -/
theorem run_append_sa {w W : World} {base b : Nat} {v : Value} {L : List SaV} {c : SaV} (ty : TypeId) (h : OwnSa w base v L) (hc : Rd w c.vs c.s.da) (ha : NearV base w.heap.size v c.vs) (hv1 : c.vs.oneCell' = true) (hW : W = w.alloc (.cells #[.bool c.s.is, .bool c.s.no, .int .i64 c.s.ep, c.vs] 104)) (hb : b = w.heap.size) (hl : L.length ≤ 100000) (hbase : base ≤ w.heap.size) :
    ∃ v' w', (Builtin.append_ #[98, 98] ty #[v, .slice (some ⟨b, 0, none⟩) 1 1]).run Tryz.prog W = .ok v' w' ∧ OwnSa w' base v' (L ++ [c]) ∧ Gro w v w' v' := by
  subst hW hb
  obtain ⟨i, hi, hz, hs, hy⟩ := info_said'
  obtain ⟨v', w', hrun, h2, h3, _, h5⟩ := run_append_own_at (P := Tryz.prog) (w.alloc (.cells #[.bool c.s.is, .bool c.s.no, .int .i64 c.s.ep, c.vs] 104)) base 98 ty 104 i (.agg #[.bool false, .bool false, .int .i64 0, .slice none 0 0]) 4 40 Tryz.underlying98 hi hz hs hy rfl (by decide) v L.length (cellsS L) (World.ownsRow.alloc h.row _) ⟨w.heap.size, 0, none⟩ 1 1 (fourS c) rfl
    (by intro j y hj; rw [add_at, Nat.zero_add, World.cell?_alloc_new, ← hj]; unfold fourS; simp) (by
      intro y hy
      simp only [fourS, List.mem_cons, List.not_mem_nil, or_false] at hy
      rcases hy with rfl | rfl | rfl | rfl
      · rfl
      · rfl
      · rfl
      · exact hv1) (by unfold maxLen; omega) (by omega) (by simp; omega)
  have G : Gro w v w' v' := (Gro.bel v (belR w _)).trans (Gro.of h3 h5)
  have key : ∀ u, NearV base w.heap.size v u → NearV base w'.heap.size v' u := fun u hu x n c e => (hu x n c e).imp id fun q => ⟨q.1, Nat.lt_of_lt_of_le q.2.1 G.gr.size, G.ne q.2.1 q.2.2⟩
  refine ⟨v', w', hrun, ⟨?_, ?_, ?_⟩, G⟩
  · rw [List.length_append, cellsS_append]
    have : cellsS [c] = fourS c := by show fourS c ++ [] = _; rw [List.append_nil]
    rw [this]; exact h2
  · intro d hd
    rcases List.mem_append.1 hd with hd | hd
    · exact (h.ea d hd).groV G (h.ap d hd)
    · simp only [List.mem_singleton] at hd
      subst hd
      exact hc.groV G ha
  · intro d hd
    rcases List.mem_append.1 hd with hd | hd
    · exact key _ (h.ap d hd)
    · simp only [List.mem_singleton] at hd
      subst hd
      exact key _ ha
theorem wpList_append_sa {w W : World} {base b : Nat} {v : Value} {L : List SaV} {c : SaV} {ops : Array Oper} {rest : List Oper} {o : Oper} {a : Act} {Q : Exit → Act → World → Prop} (hgd : o.guard = none) (s x : Operand)
    (ho : o.op = .call { callee := .builtin .append, args := #[s, x], argTypes := #[98, 98] }) (hs : a.eval s = v) (hx : a.eval x = .slice (some ⟨b, 0, none⟩) 1 1)
    (h : OwnSa w base v L) (hc : Rd w c.vs c.s.da) (ha : NearV base w.heap.size v c.vs) (hv1 : c.vs.oneCell' = true) (hW : W = w.alloc (.cells #[.bool c.s.is, .bool c.s.no, .int .i64 c.s.ep, c.vs] 104)) (hb : b = w.heap.size) (hl : L.length ≤ 100000) (hbase : base ≤ w.heap.size)
    (k : ∀ v' w', OwnSa w' base v' (L ++ [c]) → Gro w v w' v' → wpList Tryz.prog ops Q rest (a.put o.dst v') w') : wpList Tryz.prog ops Q (o :: rest) a W := by
  refine wpList_plain hgd fun K hK => ?_
  obtain ⟨v', w', hrun, h2, h3⟩ := run_append_sa o.type h hc ha hv1 hW hb hl hbase
  unfold Oper.wp execOp
  simp only [ho, resolve, invoke, builtin, Sem.run_bind, Sem.run_pure, Result.andThen_ok, List.map_toArray, List.map_cons, List.map_nil, hs, hx, hrun]
  exact hK _ _ (k v' w' h2 h3)
end Go.Proofs.YtgahaebfgmbckaaGreat.Gf

namespace Go.Proofs.YtgahaebfgmbckaaGreat.Gf
set_option linter.unusedVariables false
set_option linter.unusedSimpArgs false
open Go.RowKit
/-- what all disks say, or that the power is gone -/
def Saids17 (w : World) (a : ArS) (ad : Int) (e : Ending) (w' : World) : Prop :=
  (a.off = true ∧ e = .returned (.tuple #[.slice none 0 0, .int .i64 130]) ∧ Below w.heap.size w w') ∨ (a.off = false ∧ ∃ L v, e = .returned (.tuple #[v, .int .i64 0]) ∧ OwnSa w' w.heap.size v L ∧ sL L = sayL a ad ∧ Below w.heap.size w w')
theorem far_part {w : World} {u v : Value} (h : FarV w u) (k : PartV u v) : FarV w v := fun x n c e => by
  rcases k (fun q => q < w.heap.size) (h.apart fun q hq => hq) x n c e with q | q
  · exact Or.inl q
  · exact Or.inr (by omega)
theorem near_of {w wr w2 : World} {lv u : Value} {D : List UInt8} (hf : FarV wr u) (hr : Rd w2 u D) (hs : w.heap.size ≤ wr.heap.size) (hl : ∀ k, lv.ownBlock = some k → k < wr.heap.size) : NearV w.heap.size w2.heap.size lv u := fun x n c e => by
  rcases hf x n c e with q | q
  · exact Or.inl q
  · rcases hr with ⟨ao, cap, h1, h2, _⟩ | ⟨b, off, cap, h1, h2, h3, h4, h5, _⟩
    · rw [h2] at e
      simp at e
      exact Or.inl e.2.1.symm
    · rw [h2] at e
      simp at e
      obtain ⟨rfl, _⟩ := e
      refine Or.inr ⟨by show w.heap.size ≤ b; have : wr.heap.size ≤ b := q; omega, h5, fun k => ?_⟩
      have h6 : b < wr.heap.size := hl b k
      have : wr.heap.size ≤ b := q
      omega
theorem say_step {a : ArS} {ad : Int} {L : List SaV} {r : Nat} {c : SaV} (h : sL L = (List.range r).map (sayV a ad)) (hc : sayV a ad r = c.s) : sL (L ++ [c]) = (List.range (r + 1)).map (sayV a ad) := by
  unfold sL at h ⊢
  rw [List.map_append, h, List.range_succ, List.map_append]
  show _ ++ [c.s] = _ ++ [sayV a ad r]
  rw [hc]
theorem sa_tf {p : Prop} (h : p := by
  go_wp2_with (at_builtin; (refine wpList_append_sa (w := w2) rfl (.tmp 39) (.tmp 56) rfl rfl rfl O2 (c := ⟨⟨true, false, (N : Int), D⟩, .slice ua D.length uc⟩) RC NC rfl rfl rfl (by have := ll.out; omega) s2 ?_); intro v4 w4 o4 G4; have B4 := BF.grown G4.gr BF.size (fun q hq => (lo q hq).1); clear G4 O2 BF RC)
  have B5 : Hid (Below w.heap.size w w4) := B4
  go_roundw
  case rel => exact ⟨r + 1, _, by omega, by go_num, o4, HS, B5⟩
  case measure => simp [intOf]; omega) : p := h
theorem sa_ft {p : Prop} (h : p := by
  go_wp2_with (at_builtin; (refine wpList_append_sa (w := w2) rfl (.tmp 39) (.tmp 56) rfl rfl rfl O2 (c := ⟨⟨false, true, (N : Int), D⟩, .slice ua D.length uc⟩) RC NC rfl rfl rfl (by have := ll.out; omega) s2 ?_); intro v4 w4 o4 G4; have B4 := BF.grown G4.gr BF.size (fun q hq => (lo q hq).1); clear G4 O2 BF RC)
  have B5 : Hid (Below w.heap.size w w4) := B4
  go_roundw
  case rel => exact ⟨r + 1, _, by omega, by go_num, o4, HS, B5⟩
  case measure => simp [intOf]; omega) : p := h
theorem sa_ff {p : Prop} (h : p := by
  go_wp2_with (at_builtin; (refine wpList_append_sa (w := w2) rfl (.tmp 39) (.tmp 56) rfl rfl rfl O2 (c := ⟨⟨false, false, (N : Int), D⟩, .slice ua D.length uc⟩) RC NC rfl rfl rfl (by have := ll.out; omega) s2 ?_); intro v4 w4 o4 G4; have B4 := BF.grown G4.gr BF.size (fun q hq => (lo q hq).1); clear G4 O2 BF RC)
  have B5 : Hid (Below w.heap.size w w4) := B4
  go_roundw
  case rel => exact ⟨r + 1, _, by omega, by go_num, o4, HS, B5⟩
  case measure => simp [intOf]; omega) : p := h
set_option maxRecDepth 100000 in
set_option maxHeartbeats 4000000 in
theorem rsaid17_any {w : World} {rb : Nat} {HR GA : Nat → Prop} {a : ArS} (h : RaAt w rb HR GA a) {ad : Int} : Calls Tryz.prog 40 #[.pointer (some ⟨rb, 0, none⟩), .int .i64 ad] w (Saids17 w a ad) := by
  have HA : Hid (∀ W, Below w.heap.size w W → RaAt W rb HR GA a) := fun W b => h.below b
  obtain ⟨xb, yb, cx, cy, rd, hM, ok⟩ := h
  have c0 := hM.c0
  have lr := hM.lt rb hM.hr
  have d1 := hM.d1
  have d2 := hM.d2
  have OK : Hid a.Ok := ok
  obtain ⟨n, hn⟩ : ∃ n, Hid (n = a.D.length) := ⟨_, rfl⟩
  rw [← hn.out] at c0 d1 d2
  clear hM ok
  cases ho : a.off with
  | true =>
    have hn0 : (0 : Int) < (n : Int) := by omega
    have KR := fun W (b : Below w.heap.size w W) => rreadA_far (HA.out W b) (i := 0) (ad := ad)
    have e1 : rdAX a 0 ad = 130 := if_pos ho
    have e2 : rdAB a 0 ad = [] := if_pos ho
    rw [e1, e2] at KR
    have KR' : Hid _ := KR
    clear KR e1 e2 OK
    go_enter Tryz.func40, Tryz.ntmps40
    go_wp2_with fail
    go_loopw [6, 7] (fun lv i wr => i = .int .i64 0 ∧ lv = .slice none 0 0 ∧ wr = w) (fun _ _ _ => 0)
    case atStart => exact ⟨rfl, rfl, rfl⟩
    case round =>
      obtain ⟨rfl, rfl, rfl⟩ := hrel
      go_wp2_with fail
      refine (KR'.out _ (Below.refl _ _)).mono ?_
      rintro _ w1 ⟨v, rfl, R1, F1, B1⟩
      obtain ⟨va, vc, rfl⟩ := R1.form
      clear R1 F1
      go_wp2
      exact bodyPost_ret (v := .tuple #[.slice none 0 0, .int .i64 130]) (by simp [results, Tryz.results40, go_sem]) rfl (Or.inl ⟨ho, rfl, B1⟩)
  | false =>
    have HO : Hid (a.off = false) := ho
    clear ho
    go_enter Tryz.func40, Tryz.ntmps40
    go_wp2_with fail
    go_loopw [6, 7] (fun lv i wr => ∃ (r : Nat) (L : List SaV), r ≤ n ∧ i = .int .i64 (r : Int) ∧ OwnSa wr w.heap.size lv L ∧ Hid (sL L = (List.range r).map (sayV a ad)) ∧ Hid (Below w.heap.size w wr)) (fun _ i _ => n - (intOf i).toNat)
    case atStart => exact ⟨0, [], Nat.zero_le _, rfl, OwnSa.nil _ _, rfl, Below.refl _ _⟩
    case round =>
      obtain ⟨r, L, hr, rfl, hO, hS, hB⟩ := hrel
      have ll : Hid (L.length = r) := by have := congrArg List.length hS.out; rw [sL_length, List.length_map, List.length_range] at this; exact this
      obtain ⟨la, lc, el⟩ := (hO.rd (by have := ll.out; omega)).form
      subst el
      have k0 : wr.cell? ⟨rb, 0, none⟩ = some (.slice (some ⟨xb, 0, none⟩) n cx) := (hB.out.cell (p := ⟨rb, 0, none⟩) lr).trans c0
      by_cases hlt : r < n
      · have hlt' : (r : Int) < (n : Int) := by omega
        have KR := rreadA_far (HA.out wr hB.out) (i := (r : Int)) (ad := ad)
        have lo : Hid (∀ k, (Value.slice la L.length lc).ownBlock = some k → w.heap.size ≤ k ∧ k < wr.heap.size) := World.ownsRow.lt hO.row
        obtain ⟨x, hx⟩ : ∃ x, Hid (x = rdAX a (r : Int) ad) := ⟨_, rfl⟩
        obtain ⟨p, hp⟩ : ∃ p, Hid (p = rdAB a (r : Int) ad) := ⟨_, rfl⟩
        have lp : p.length ≤ 100000 := by rw [hp.out]; exact Nat.le_trans (rdB_le OK.out _ _) (by decide)
        rw [← hx.out, ← hp.out] at KR
        have x130 : ¬ x = 130 := by rw [hx.out]; exact rdAX_up HO.out
        have x130' : (x == 130) = false := beq_eq_false_iff_ne.2 x130
        go_wp2_with fail
        refine KR.mono ?_
        rintro _ w1 ⟨v, rfl, R1, F1, B1⟩
        have KU := runpack_part (a := ad) R1 lp
        obtain ⟨va, vc, ev⟩ := R1.form
        obtain ⟨X, hX⟩ : ∃ X, Hid (X = upX ad p) := ⟨_, rfl⟩
        obtain ⟨N, hN⟩ : ∃ N, Hid (N = upN ad p) := ⟨_, rfl⟩
        obtain ⟨D, hD⟩ : ∃ D, Hid (D = upD ad p) := ⟨_, rfl⟩
        rw [← hX.out, ← hN.out, ← hD.out] at KU
        subst ev
        clear KR
        have sz := hB.out.size
        go_wp2_with fail
        refine KU.mono ?_
        rintro _ w2 ⟨u, rfl, R2, P2, B2⟩
        clear KU
        obtain ⟨ua, uc, eu⟩ := R2.form
        subst eu
        have O2 := hO.later (B1.step16 B2 B1.size)
        have BF := (hB.out.step16 B1 hB.out.size).step16 B2 (Nat.le_trans hB.out.size B1.size)
        have s2 := BF.size
        have NC : NearV w.heap.size w2.heap.size (.slice la L.length lc) (.slice ua D.length uc) := near_of (far_part F1 P2) R2 hB.out.size (fun k hk => (lo.out k hk).2)
        have SV : Hid (sayV a ad r = ⟨decide (x = 0 ∧ X = 0), decide (x = 0 ∧ p = []), (N : Int), D⟩) := by
          show _ = _
          unfold sayV
          rw [← hx.out, ← hp.out, ← hX.out, ← hN.out, ← hD.out]
        have XP : Hid (X = 0 → p.length ≠ 0) := fun q => by
          rw [hX.out] at q
          have := (upX_iff.1 q).1
          omega
        replace lo := World.ownsRow.lt O2.row
        clear F1 P2 B1 B2 R1 hO hB hX hN hD hx k0 x130
        by_cases q0 : x = 0
        · subst q0
          by_cases q1 : X = 0
          · subst q1
            have q2 : ¬ (p.length : Int) = 0 := by have := XP.out rfl; omega
            have q3 : ((p.length : Int) == 0) = false := beq_eq_false_iff_ne.2 q2
            obtain ⟨C, hC⟩ : ∃ C : SaV, C = ⟨⟨true, false, (N : Int), D⟩, .slice ua D.length uc⟩ := ⟨_, rfl⟩
            have HS : Hid (sL (L ++ [C]) = (List.range (r + 1)).map (sayV a ad)) := say_step hS.out (by
              rw [SV.out, hC, decide_eq_true ⟨rfl, rfl⟩, decide_eq_false fun k => q2 (by rw [k.2]; rfl)])
            have RC : Rd w2 C.vs C.s.da := by rw [hC]; exact R2
            subst hC
            clear SV XP hS R2
            exact sa_tf
          · by_cases q2 : (p.length : Int) = 0
            · obtain ⟨C, hC⟩ : ∃ C : SaV, C = ⟨⟨false, true, (N : Int), D⟩, .slice ua D.length uc⟩ := ⟨_, rfl⟩
              have q1' : (X == 0) = false := beq_eq_false_iff_ne.2 q1
              have HS : Hid (sL (L ++ [C]) = (List.range (r + 1)).map (sayV a ad)) := say_step hS.out (by
                rw [SV.out, hC, decide_eq_false fun k => q1 k.2, decide_eq_true ⟨rfl, List.length_eq_zero_iff.1 (by omega)⟩])
              have RC : Rd w2 C.vs C.s.da := by rw [hC]; exact R2
              subst hC
              clear SV XP hS R2
              exact sa_ft
            · obtain ⟨C, hC⟩ : ∃ C : SaV, C = ⟨⟨false, false, (N : Int), D⟩, .slice ua D.length uc⟩ := ⟨_, rfl⟩
              have q1' : (X == 0) = false := beq_eq_false_iff_ne.2 q1
              have q3 : ((p.length : Int) == 0) = false := beq_eq_false_iff_ne.2 q2
              have HS : Hid (sL (L ++ [C]) = (List.range (r + 1)).map (sayV a ad)) := say_step hS.out (by
                rw [SV.out, hC, decide_eq_false fun k => q1 k.2, decide_eq_false fun k => q2 (by rw [k.2]; rfl)])
              have RC : Rd w2 C.vs C.s.da := by rw [hC]; exact R2
              subst hC
              clear SV XP hS R2
              exact sa_ff
        · obtain ⟨C, hC⟩ : ∃ C : SaV, C = ⟨⟨false, false, (N : Int), D⟩, .slice ua D.length uc⟩ := ⟨_, rfl⟩
          have q0' : (x == 0) = false := beq_eq_false_iff_ne.2 q0
          have HS : Hid (sL (L ++ [C]) = (List.range (r + 1)).map (sayV a ad)) := say_step hS.out (by
            rw [SV.out, hC, decide_eq_false fun k => q0 k.1, decide_eq_false fun k => q0 k.1])
          have RC : Rd w2 C.vs C.s.da := by rw [hC]; exact R2
          subst hC
          clear SV XP hS R2
          exact sa_ff
      · obtain rfl : r = n := by omega
        have hge : ¬ (r : Int) < (r : Int) := by omega
        have FIN : Hid (Saids17 w a ad (.returned (.tuple #[.slice la L.length lc, .int .i64 0])) wr) := Or.inr ⟨HO.out, L, _, rfl, hO, by rw [hS.out, hn.out]; rfl, hB.out⟩
        clear hO hS hB
        go_wp2
        exact bodyPost_ret (v := .tuple #[.slice la L.length lc, .int .i64 0]) (by simp [results, Tryz.results40, go_sem]) rfl FIN.out
end Go.Proofs.YtgahaebfgmbckaaGreat.Gf

namespace Go.Proofs.YtgahaebfgmbckaaGreat.Gf
set_option linter.unusedVariables false
set_option linter.unusedSimpArgs false
open Go.RowKit
theorem RdSa.drewN {w : World} {v : Value} {L : List SaV} (h : RdSa w v L) (n : Nat) : RdSa (w.drewN n) v L := h.below ((Below.refl _ _).drewN n)
theorem co_no {p : Prop} (h : p := by
  go_wp2
  go_roundw
  case rel => exact ⟨r + 1, _, by omega, by go_num, by rw [CN.out], rfl⟩
  case measure => simp [intOf]; omega) : p := h
set_option maxRecDepth 100000 in
set_option maxHeartbeats 2000000 in
theorem rcopies17_any {w : World} {v u : Value} {L : List SaV} {e : Int} {d : List UInt8} (h : RdSa w v L) (hl : L.length ≤ 1000000) (hd : Rd w u d) : Calls Tryz.prog 75 #[v, .int .i64 e, u] w fun x w' => x = .returned (.int .i64 ((cpV (sL L) e d : Nat) : Int)) ∧ ∃ n, w' = w.drewN n := by
  obtain ⟨a, c, ev⟩ := h.form
  subst ev
  obtain ⟨ua, uc, eu⟩ := hd.form
  have HD : Hid (Rd w u d) := hd
  subst eu
  have ec : cpV (sL L) e d = cnt (fun i => isV (sF (sL L) i) e d) L.length := by unfold cpV; rw [sL_length]
  rw [ec]
  obtain ⟨p, hp⟩ : ∃ p : Nat → Bool, Hid (p = fun i => isV (sF (sL L) i) e d) := ⟨_, rfl⟩
  rw [← hp.out]
  clear ec hd
  go_enter Tryz.func75, Tryz.ntmps75
  go_wp2_with fail
  go_loopw [7, 8] (fun cv i wr => ∃ (r nd : Nat), r ≤ L.length ∧ i = .int .i64 (r : Int) ∧ cv = .int .i64 ((cnt p r : Nat) : Int) ∧ wr = w.drewN nd) (fun _ i _ => L.length - (intOf i).toNat)
  case atStart => exact ⟨0, 0, Nat.zero_le _, rfl, rfl, rfl⟩
  case round =>
    obtain ⟨r, nd, hr, rfl, rfl, rfl⟩ := hrel
    have cl : cnt p r ≤ r := cnt_le p r
    by_cases hlt : r < L.length
    · have hlt' : (r : Int) < (L.length : Int) := by omega
      obtain ⟨b, off, rfl, hb, z⟩ := (h.drewN nd).at hlt
      have PR : Hid (p r = isV (L.getD r default).s e d) := by show _ = _; rw [hp.out]; show isV (sF (sL L) r) e d = _; rw [sL_at]
      generalize L.getD r default = k at z PR
      obtain ⟨⟨si, sn, se, sd⟩, vs⟩ := k
      have KS := same_any z.rd (Rd.drewN HD.out nd)
      obtain ⟨va, vc, ev⟩ := z.rd.form
      simp only at ev KS PR
      have z0 : (w.drewN nd).cell? ⟨b, off + r * 4, none⟩ = some (.bool si) := z.c0
      have z2 : (w.drewN nd).cell? ⟨b, off + r * 4 + 2, none⟩ = some (.int .i64 se) := z.c2
      have z3 : (w.drewN nd).cell? ⟨b, off + r * 4 + 3, none⟩ = some vs := z.c3
      have y0 : w.cell? ⟨b, off + r * 4, none⟩ = some (.bool si) := z.c0
      have y2 : w.cell? ⟨b, off + r * 4 + 2, none⟩ = some (.int .i64 se) := z.c2
      rw [ev] at z3 KS
      obtain ⟨sb, hsb⟩ : ∃ sb, Hid (sb = sameB sd d) := ⟨_, rfl⟩
      rw [← hsb.out] at KS
      have PS : Hid (p r = (si && (se == e) && sb)) := by
        show _ = _
        rw [PR.out, hsb.out]
        unfold isV sameB
        rw [show (sd == d) = decide (sd = d) by rw [Bool.eq_iff_iff]; simp]
      clear z PR ev hsb
      go_wp2_with fail
      refine KS.mono ?_
      rintro _ w1 ⟨rfl, n1, rfl⟩
      clear KS z0 z2 z3
      cases si with
      | false =>
        have CN : Hid (cnt p (r + 1) = cnt p r) := cnt_not (by rw [PS.out]; rfl)
        clear PS
        exact co_no
      | true =>
        by_cases qe : se = e
        · subst qe
          cases sb with
          | false =>
            have CN : Hid (cnt p (r + 1) = cnt p r) := cnt_not (by rw [PS.out]; simp)
            clear PS
            exact co_no
          | true =>
            have CN : Hid (cnt p (r + 1) = cnt p r + 1) := cnt_yes (by rw [PS.out]; simp)
            clear PS
            go_wp2
            go_roundw
            case rel => exact ⟨r + 1, _, by omega, by go_num, by rw [CN.out]; go_num, rfl⟩
            case measure => simp [intOf]; omega
        · have qe' : (se == e) = false := beq_eq_false_iff_ne.2 qe
          have CN : Hid (cnt p (r + 1) = cnt p r) := cnt_not (by rw [PS.out, qe']; simp)
          clear PS
          exact co_no
    · obtain rfl : r = L.length := by omega
      have hge : ¬ (L.length : Int) < (L.length : Int) := by omega
      clear h HD
      go_wp2
      go_ret
      exact ⟨rfl, _, rfl⟩
end Go.Proofs.YtgahaebfgmbckaaGreat.Gf
