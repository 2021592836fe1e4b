/- TEXTS JOINED: DkBy, DkTold, StTold, CrRef, CrCode, BkBeq, SeCA. -/
import Derived.Test.YtddnfhfangfgeaaGreatTome8
import Derived.Test.YtddnfhfangfgeaaGreatTome4
import Derived.Test.YtddnfhfangfgeaaGreatTome5
import Derived.Test.YtddnfhfangfgeaaGreatTome1
import Derived.WalkMore
import Derived.Test.YtddnfhfangfgeaaGreatTome3
import Derived.Laws.BytesArg
import Derived.Test.YtddnfhfangfgeaaGreatTome2
import Derived.Deep.RegionHeld3
namespace Go.Proofs.YtddnfhfangfgeaaGreat.Gf
set_option linter.unusedVariables false
set_option linter.unusedSimpArgs false
open Go.RowKit
/-- what is held, with the slices of its bytes -/
abbrev TH := Int × List UInt8 × Value
def cellsT (T : List TH) : List Value := T.flatMap fun t => [.int .i64 t.1, t.2.2]
def bareT (T : List TH) : List (Int × List UInt8) := T.map fun t => (t.1, t.2.1)
theorem cellsT_snoc (T : List TH) (t : TH) : cellsT (T ++ [t]) = cellsT T ++ [.int .i64 t.1, t.2.2] := by unfold cellsT; simp
structure OwnT (w : World) (base : Nat) (v : Value) (T : List TH) : Prop where
  row : w.ownsRow base 62 2 v T.length (cellsT T)
  each : ∀ t ∈ T, w.ownsRow base 5 1 t.2.2 t.2.1.length (t.2.1.map vb)
/-- a list of what is held, in memory of one's own -/
def OwnH (w : World) (base : Nat) (v : Value) (L : List (Int × List UInt8)) : Prop := ∃ T, bareT T = L ∧ OwnT w base v T
theorem info_held : (Tryz.prog.info? 62).map (fun i => (i.zero, i.size, i.bytes)) = some (some (.agg #[.int .i64 0, .slice none 0 0]), 2, 32) := by kernel_rfl
theorem info_parts2 {t : Nat} {a : Value} {b c : Nat} (h : (Tryz.prog.info? t).map (fun i => (i.zero, i.size, i.bytes)) = some (some a, b, c)) : ∃ i, Tryz.prog.info? t = some i ∧ i.zero = some a ∧ i.size = b ∧ i.bytes = c := by
  cases hi : Tryz.prog.info? t with
  | none => rw [hi] at h; cases h
  | some i => rw [hi] at h; simp at h; exact ⟨i, rfl, h.1, h.2.1, h.2.2⟩
theorem heldL_keys (f : Int → Option (List UInt8)) (B C : Int → Nat) (S : Nat) : heldL f S = (keysL (valI f B C) S).map fun x => (x, (f x).getD []) := by
  induction S with
  | zero => rfl
  | succ S ih =>
    rw [heldL_succ, ih]
    unfold keysL
    rw [List.range_succ, List.map_append, List.filter_append, List.map_append]
    congr 1
    unfold valI
    cases h : f (S : Int) <;> simp [h]
theorem keys_some {f : Int → Option (List UInt8)} {B C : Int → Nat} {S k : Nat} (h : k < (keysL (valI f B C) S).length) : ∃ p, f ((keysL (valI f B C) S).getD k 0) = some p := by
  have h1 : (keysL (valI f B C) S).getD k 0 ∈ keysL (valI f B C) S := by
    rw [show (keysL (valI f B C) S).getD k 0 = (keysL (valI f B C) S)[k] by simp [List.getD, h]]
    exact List.getElem_mem h
  have h2 := (keysL_mem.1 h1).2.2
  unfold valI at h2
  cases hf : f ((keysL (valI f B C) S).getD k 0) with
  | none => unfold valI at hf; rw [hf] at h2; cases h2
  | some p => exact ⟨p, rfl⟩
section
variable {w : World}
theorem row_at {base e size n : Nat} {v : Value} {xs : List Value} (h : w.ownsRow base e size v n xs) {g : Nat} (hg : v.ownBlock = some g) : base ≤ g ∧ g < w.heap.size ∧ ∃ cur, w.heap[g]? = some (.cells cur e (0, 0)) := by
  obtain ⟨h0, ⟨h, _⟩ | ⟨g', cap, cur, hv, hg', hh, r⟩⟩ := h
  · rw [h] at hg; cases hg
  · rw [hv] at hg
    cases hg
    exact ⟨hg', (Array.getElem?_eq_some_iff.1 hh).1, cur, hh⟩
theorem owns_slice {base e size n : Nat} {v : Value} {xs : List Value} (h : w.ownsRow base e size v n xs) : ∃ a c, v = .slice a n c := by
  obtain ⟨h0, ⟨h, e⟩ | ⟨g', cap, cur, hv, hg', hh, r⟩⟩ := h
  · exact ⟨none, 0, by rw [h, e]⟩
  · exact ⟨_, _, hv⟩
theorem owns_low {base base' e size n : Nat} {v : Value} {xs : List Value} (h : w.ownsRow base e size v n xs) (hb : base' ≤ base) : w.ownsRow base' e size v n xs := by
  obtain ⟨h0, h | ⟨g, cap, cur, hv, hg, r⟩⟩ := h
  · exact ⟨h0, Or.inl h⟩
  · exact ⟨h0, Or.inr ⟨g, cap, cur, hv, Nat.le_trans hb hg, r⟩⟩
theorem owns_after {base e size n : Nat} {v : Value} {xs : List Value} {w' : World} (h : w.ownsRow base e size v n xs) (hb : Below w.heap.size w w') : w'.ownsRow base e size v n xs :=
  owns_block h (fun g hg => hb.block g (row_at h hg).2.1)
theorem OwnT.after {base : Nat} {v : Value} {T : List TH} {w' : World} (h : OwnT w base v T) (hb : Below w.heap.size w w') : OwnT w' base v T := ⟨owns_after h.row hb, fun t ht => owns_after (h.each t ht) hb⟩
theorem OwnT.snoc {base : Nat} {vl v : Value} {T : List TH} {x : Int} {p : List UInt8} (h : OwnT w base vl T) (hr : w.ownsRow base 5 1 v p.length (p.map vb)) {v' : Value} {w' : World}
    (h' : w'.ownsRow base 62 2 v' (T.length + 1) (cellsT T ++ [.int .i64 x, v])) (hg : (w.alloc (.cells #[.int .i64 x, v] 62)).grownBy w' vl.ownBlock) : OwnT w' base v' (T ++ [(x, p, v)]) := by
  have key : ∀ {v2 : Value} {q : List UInt8}, w.ownsRow base 5 1 v2 q.length (q.map vb) → w'.ownsRow base 5 1 v2 q.length (q.map vb) := by
    intro v2 q h2
    refine owns_block h2 (fun g hg2 => ?_)
    obtain ⟨_, hl, cur, hc⟩ := row_at h2 hg2
    refine (hg.block g (by simp; omega) (fun e => ?_)).trans (Below.heap_alloc w _ g hl)
    obtain ⟨_, _, cur', hc'⟩ := row_at h.row e.symm
    rw [hc] at hc'
    simp at hc'
  refine ⟨?_, fun t ht => ?_⟩
  · rw [cellsT_snoc, List.length_append]
    exact h'
  · rcases List.mem_append.1 ht with h1 | h1
    · exact key (h.each t h1)
    · simp at h1
      subst h1
      exact key hr
theorem bareT_snoc (T : List TH) (x : Int) (p : List UInt8) (v : Value) : bareT (T ++ [(x, p, v)]) = bareT T ++ [(x, p)] := by unfold bareT; simp
set_option maxRecDepth 100000 in
set_option maxHeartbeats 1000000 in
theorem by_any {m S : Nat} {f : Int → Option (List UInt8)} {B C : Int → Nat} (h : MapI Tryz.prog 3 w m S (valI f B C)) (hf : InS S f) (hS : S ≤ 4096) (hr : ∀ x p, f x = some p → Rd w (.slice (some ⟨B x, 0, none⟩) p.length (C x)) p) :
    Calls Tryz.prog 97 #[.map (some m)] w fun e w' => ∃ v, e = .returned v ∧ OwnH w' w.heap.size v (heldL f S) ∧ Below w.heap.size w w' := by
  have K1 := keys_call (some m) w
  have K2 := sorted_call h hS
  go_enter Tryz.func97, Tryz.ntmps97
  go_wp2_with fail
  refine K1.mono ?_
  rintro _ wq ⟨rfl, hwq⟩
  rw [hwq]
  clear hwq wq K1
  go_wp2_with fail
  refine K2.mono ?_
  rintro _ w1 ⟨v1, rfl, O1, B1⟩
  clear K2
  obtain ⟨i0, hi, hz0, hz1, hz2⟩ := info_parts2 info_held
  obtain ⟨ka, kc, rfl⟩ := owns_slice O1
  obtain ⟨Ks, hKs⟩ : ∃ Ks, Ks = keysL (valI f B C) S := ⟨_, rfl⟩
  have hKl : Ks.length ≤ 4096 := by rw [hKs]; exact Nat.le_trans (keysL_length _ _) hS
  have hKm : ∀ k, k < Ks.length → ∃ p, f (Ks.getD k 0) = some p := fun k hk => by rw [hKs] at hk ⊢; exact keys_some hk
  have hFin : Hid (Ks.map (fun x => (x, (f x).getD [])) = heldL f S) := by
    show _ = _
    rw [heldL_keys f B C S, ← hKs]
  rw [← hKs] at O1 ⊢
  clear hKs
  have START : Hid (∃ T, bareT T = (Ks.take 0).map (fun x => (x, (f x).getD [])) ∧ OwnT w1 w1.heap.size (.slice none 0 0) T ∧ Below w1.heap.size w1 w1) := ⟨[], rfl, ⟨⟨rfl, Or.inl ⟨rfl, rfl⟩⟩, fun t ht => by cases ht⟩, Below.refl _ _⟩
  go_wp2
  go_loopw [3, 10] (fun vl i wr => ∃ k : Nat, k ≤ Ks.length ∧ i = .int .i64 (k : Int) ∧ ∃ T, bareT T = (Ks.take k).map (fun x => (x, (f x).getD [])) ∧ OwnT wr w1.heap.size vl T ∧ Below w1.heap.size w1 wr) (fun _ i _ => Ks.length - (intOf i).toNat)
  case atStart => exact ⟨0, Nat.zero_le _, rfl, START.out⟩
  case round =>
    obtain ⟨k, hk, rfl, T, hT, hO, hB⟩ := hrel
    clear START
    obtain ⟨la, lc, rfl⟩ := owns_slice hO.row
    by_cases hlt : k < Ks.length
    · have hlt' : (k : Int) < (Ks.length : Int) := by omega
      have BW : Below w.heap.size w wr := B1.trans (hB.mono B1.size)
      obtain ⟨x, hx⟩ : ∃ x, x = Ks.getD k 0 := ⟨_, rfl⟩
      obtain ⟨p, hp⟩ := hKm k hlt
      rw [← hx] at hp
      have hpx := hf x p hp
      have hwx : (Lit.int .i64 x).wf = true := by simp [Lit.wf, IntKind.min, IntKind.max, IntKind.signed, IntKind.bits]; omega
      obtain ⟨kg, kc', e1, _, OK⟩ := owns_formD (owns_after O1 hB) (by omega : Ks.length ≠ 0)
      obtain ⟨rfl, rfl⟩ : ka = some ⟨kg, 0, none⟩ ∧ kc = kc' := by simpa using e1
      have ck : wr.cell? ⟨kg, k, none⟩ = some (.int .i64 x) := by
        have := World.ownsRow.cellAt OK k (by omega)
        rw [this, List.getElem?_map, List.getElem?_eq_getElem hlt, hx]
        simp [List.getD, hlt]
      have LK := (h.below BW).look keyed_int under_map (zero_bytes wr) (key_int hwx)
      have e2 : valI f B C x = some (.slice (some ⟨B x, 0, none⟩) p.length (C x)) := by unfold valI; rw [hp]; rfl
      rw [e2] at LK
      simp only [Option.getD_some] at LK
      have KC := bclone_own ((hr x p hp).below BW) (by omega)
      have hTl : Hid (T.length = k) := by
        have := congrArg List.length hT
        simp [bareT] at this
        show T.length = k
        omega
      have hT1 : T.length + 1 ≤ 5000 := by have := hTl.out; omega
      have HT : Hid (bareT T ++ [(x, p)] = (Ks.take (k + 1)).map (fun x => (x, (f x).getD []))) := by
        show _ = _
        rw [hT, List.take_add_one, List.getElem?_eq_getElem hlt, List.map_append]
        congr 1
        have : Ks[k] = x := by rw [hx]; simp [List.getD, hlt]
        simp [this, hp]
      clear e1 e2 OK O1 hx hpx hwx hp h hr hf hKm hT hS hFin B1
      go_wp2_with fail
      refine KC.mono ?_
      rintro _ w2 ⟨v2, rfl, R2, B2⟩
      have hB2 : Below w1.heap.size w1 w2 := hB.trans (B2.mono hB.size)
      have hO2 := hO.after B2
      have R2' := owns_low R2 hB.size
      have hsz : w1.heap.size ≤ (w2.alloc (.cells #[.int .i64 x, v2] 62)).heap.size := by simp; exact Nat.le_trans hB2.size (by omega)
      have hO3 := owns_after hO2.row ((Below.refl _ w2).alloc (Nat.le_refl _) (.cells #[.int .i64 x, v2] 62))
      obtain ⟨va, vc, rfl⟩ := owns_slice R2
      clear KC ck LK hO B2 R2 hB BW
      have hnews : ∀ j u, [Value.int .i64 x, .slice va p.length vc][j]? = some u → (w2.alloc (.cells #[.int .i64 x, .slice va p.length vc] 62)).cell? ((⟨w2.heap.size, 0, none⟩ : Addr).add j) = some u := by
        intro j u hj
        rw [add_at, Nat.zero_add, World.cell?_alloc_new]
        rw [← hj, ← Array.getElem?_toList]
      have hone : ∀ u ∈ [Value.int .i64 x, .slice va p.length vc], u.oneCell' = true := by
        intro u hu
        simp at hu
        rcases hu with rfl | rfl <;> rfl
      have h63 : T.length + 1 ≤ maxLen := by unfold maxLen; omega
      have hby : (T.length + 1) * 32 ≤ 140737488355328 := by omega
      go_wp2_with (at_builtin; go_loud (refine wpList_append_own_at _ rfl (.tmp 14) (.tmp 21) 59 rfl w1.heap.size 62 i0 _ 2 32 Tryz.underlying59 hi hz0 hz1 hz2 rfl (by decide) (.slice la T.length lc) T.length (cellsT T) rfl hO3 ⟨w2.heap.size, 0, none⟩ 1 1 [.int .i64 x, .slice va p.length vc] rfl rfl hnews hone h63 hby hsz ?_); intro v' w9 hv9 hg9 _ _)
      have hO9 := OwnT.snoc hO2 R2' hv9 hg9
      have E2 : Hid (∃ T, bareT T = (Ks.take (k + 1)).map (fun x => (x, (f x).getD [])) ∧ OwnT w9 w1.heap.size v' T ∧ Below w1.heap.size w1 w9) := by
        refine ⟨_, ?_, hO9, ?_⟩
        · rw [bareT_snoc]; exact HT.out
        · exact (hB2.alloc hB2.size _).grown hg9 (by simp; exact Nat.le_trans hB2.size (by omega)) (fun q hq => (row_at hO2.row hq).1)
      clear hO9 hv9 hg9 hnews hone hO3 R2' hO2 hB2 HT hi hz0 hz1 hz2
      go_wp2
      go_roundw
      case rel => exact ⟨k + 1, by omega, by go_num, E2.out⟩
      case measure => simp [intOf]; omega
    · have hlt' : ¬ (k : Int) < (Ks.length : Int) := by omega
      have hk' : k = Ks.length := by omega
      rw [hk', List.take_length, hFin.out] at hT
      have FIN : Hid (OwnH wr w.heap.size (.slice la T.length lc) (heldL f S) ∧ Below w.heap.size w wr) := ⟨⟨T, hT, owns_low hO.row B1.size, fun t ht => owns_low (hO.each t ht) B1.size⟩, B1.trans (hB.mono B1.size)⟩
      clear hT hO hB hFin hKm hKl O1 B1 h hr hf hk'
      go_wp2
      go_ret
      exact ⟨_, rfl, FIN.out⟩
theorem dlasts_any {db : Nat} {G : Nat → Prop} {d : DkS} (h : DiskAt w db G d) : Calls Tryz.prog 64 #[.pointer (some ⟨db, 0, none⟩)] w fun e w' => ∃ v, e = .returned v ∧ OwnH w' w.heap.size v (heldL d.last d.s) ∧ Below w.heap.size w w' := by
  obtain ⟨mb, B, C, hM, _, _⟩ := h
  have c2 := hM.c2
  have c3 := hM.c3
  have K := by_any (hM.mp false) (hM.ins false) hM.s2 (fun x p hp => Rd.owned (hM.row false x p hp))
  clear hM
  go_enter Tryz.func64, Tryz.ntmps64
  go_wp2_with fail
  refine K.mono ?_
  rintro _ wq ⟨v, rfl, h1, h2⟩
  have F : Hid (OwnH wq w.heap.size v (heldL d.last d.s) ∧ Below w.heap.size w wq) := ⟨h1, h2⟩
  clear h1 h2 K
  go_wp2
  go_ret
  exact ⟨_, rfl, F.out⟩
theorem dwaits_any {db : Nat} {G : Nat → Prop} {d : DkS} (h : DiskAt w db G d) : Calls Tryz.prog 63 #[.pointer (some ⟨db, 0, none⟩)] w fun e w' => ∃ v, e = .returned v ∧ OwnH w' w.heap.size v (heldL d.wait d.s) ∧ Below w.heap.size w w' := by
  obtain ⟨mb, B, C, hM, _, _⟩ := h
  have c2 := hM.c2
  have c3 := hM.c3
  have K := by_any (hM.mp true) (hM.ins true) hM.s2 (fun x p hp => Rd.owned (hM.row true x p hp))
  clear hM
  go_enter Tryz.func63, Tryz.ntmps63
  go_wp2_with fail
  refine K.mono ?_
  rintro _ wq ⟨v, rfl, h1, h2⟩
  have F : Hid (OwnH wq w.heap.size v (heldL d.wait d.s) ∧ Below w.heap.size w wq) := ⟨h1, h2⟩
  clear h1 h2 K
  go_wp2
  go_ret
  exact ⟨_, rfl, F.out⟩
end
end Go.Proofs.YtddnfhfangfgeaaGreat.Gf

namespace Go.Proofs.YtddnfhfangfgeaaGreat.Gf
set_option linter.unusedVariables false
set_option linter.unusedSimpArgs false
open Go.RowKit
section
variable {w : World} {db : Nat} {G : Nat → Prop} {d : DkS}
/-- a disk and the least number of its blocks -/
structure DkB (w : World) (N : Nat) (db : Nat) (G : Nat → Prop) (d : DkS) : Prop where
  at_ : DiskAt w db G d
  low : ∀ k, G k → N ≤ k
  size : N ≤ w.heap.size
theorem DkB.below {N : Nat} {w' : World} (h : DkB w N db G d) (hb : Below w.heap.size w w') : DkB w' N db G d := ⟨h.at_.below hb, h.low, Nat.le_trans h.size hb.size⟩
theorem DkB.grew {N : Nat} {w' : World} {G' : Nat → Prop} {d' : DkS} (h : DkB w N db G d) (hd : DiskAt w' db G' d') (g : Grew G w G' w') : DkB w' N db G' d' := ⟨hd, g.base h.low h.size, Nat.le_trans h.size g.turn.size⟩
theorem DkB.bel {N : Nat} {w' : World} {G' : Nat → Prop} (h : DkB w N db G d) (g : Grew G w G' w') : Below N w w' := g.below h.low h.size
/-- a slice that was told, apart from the disk -/
structure Told (w : World) (G : Nat → Prop) (v : Value) (p : List UInt8) : Prop where
  rd : Rd w v p
  ap : ApartG G v
theorem Told.below {v : Value} {p : List UInt8} {w' : World} (h : Told w G v p) (hb : Below w.heap.size w w') : Told w' G v p := ⟨h.rd.below hb, h.ap⟩
theorem Told.grew {v : Value} {p : List UInt8} {w' : World} {G' : Nat → Prop} (h : Told w G v p) (g : Grew G w G' w') : Told w' G' v p := ⟨h.rd.grew h.ap g, h.ap.grew h.rd g⟩
theorem Told.own {v : Value} {p : List UInt8} {w' : World} {e : Nat} (h : DiskAt w db G d) (ho : w'.ownsRow w.heap.size e 1 v p.length (p.map vb)) : Told w' G v p := ⟨Rd.owned ho, ApartG.own ho h.lt⟩
theorem Told.old {N : Nat} {v : Value} {p : List UInt8} {w0 : World} (h : DkB w N db G d) (hr : Rd w0 v p) (hb : N = w0.heap.size) (hw : Below w0.heap.size w0 w) : Told w G v p := ⟨hr.below hw, hr.apartG (by rw [← hb]; exact h.low)⟩
theorem Told.byte {v : Value} {y : UInt8} (h : Told w G v [y]) : ∃ b o c, v = .slice (some ⟨b, o, none⟩) 1 c ∧ w.cell? ⟨b, o, none⟩ = some (.int .u8 ((y.toNat : Nat) : Int)) := by
  rcases h.rd with ⟨_, _, h1, _⟩ | ⟨b, o, c, _, h2, _, _, _, h3⟩
  · cases h1
  · exact ⟨b, o, c, h2, h3 0 (by simp)⟩
theorem DiskAt.dead (h : DiskAt w db G d) : w.cell? ⟨db, 1, none⟩ = some (.bool d.dead) := by
  obtain ⟨mb, B, C, h1, _⟩ := h
  exact h1.c1
theorem belA (w : World) (o : Obj) : Below w.heap.size w (w.alloc o) := (Below.refl _ _).alloc (Nat.le_refl _) _
end
theorem OwnH.none {w : World} {base : Nat} {v : Value} {L : List (Int × List UInt8)} (h : OwnH w base v L) (hl : L = []) : ∃ a c, v = .slice a 0 c := by
  obtain ⟨T, h1, h2⟩ := h
  rw [hl] at h1
  have : T = [] := by cases T with
    | nil => rfl
    | cons t T => cases h1
  subst this
  exact owns_slice h2.row
end Go.Proofs.YtddnfhfangfgeaaGreat.Gf

namespace Go.Proofs.YtddnfhfangfgeaaGreat.Gf
set_option linter.unusedVariables false
set_option linter.unusedSimpArgs false
open Go.RowKit
structure ToldL (w : World) (G : Nat → Prop) (v : Value) (L : List (List UInt8)) : Prop where
  rs : Rs w v L
  ap : ∀ (b off n c : Nat), v = .slice (some ⟨b, off, none⟩) n c → L.length = 0 ∨ ¬ G b
  each : ∀ (i b off n c : Nat) (x : Value), i < L.length → v = .slice (some ⟨b, off, none⟩) n c → w.cell? ⟨b, off + i, none⟩ = some x → ApartG G x
section
variable {w w' : World} {G G' : Nat → Prop} {v : Value} {L : List (List UInt8)}
theorem ToldL.spot (h : ToldL w G v L) {i b off n c : Nat} (hi : i < L.length) (e : v = .slice (some ⟨b, off, none⟩) n c) : ∃ xa xc, w.cell? ⟨b, off + i, none⟩ = some (.slice xa (ro L i).length xc) ∧ Told w G (.slice xa (ro L i).length xc) (ro L i) ∧ b < w.heap.size ∧ ¬ G b := by
  have hr := h.rs
  subst e
  obtain ⟨b', off', xa, xc, e1, hb, hc, hR⟩ := hr.at hi
  simp at e1
  obtain ⟨rfl, rfl⟩ := e1
  exact ⟨xa, xc, hc, ⟨hR, h.each i _ _ _ _ _ hi rfl hc⟩, hb, (h.ap _ _ _ _ rfl).resolve_left (by omega)⟩
theorem ToldL.keep (h : ToldL w G v L) (hs : w.heap.size ≤ w'.heap.size) (hc : ∀ k, k < w.heap.size → ¬ G k → w'.heap[k]? = w.heap[k]?) (hG : ∀ k, k < w.heap.size → ¬ G k → ¬ G' k) (hR : ∀ x p, Told w G x p → Told w' G' x p) : ToldL w' G' v L := by
  have hr := h.rs
  obtain ⟨a, cap, h1, h2, h3, h4, h5⟩ := hr
  have cell : ∀ i b off, i < L.length → a = some ⟨b, off, none⟩ → w'.cell? ⟨b, off + i, none⟩ = w.cell? ⟨b, off + i, none⟩ := fun i b off hi e => by
    obtain ⟨_, _, _, _, hb, hg⟩ := h.spot hi (h1.trans (by rw [e]))
    exact World.cell?_of_block (w := w) (hc b hb hg)
  refine ⟨⟨a, cap, h1, h2, h3, h4, fun i hi => ?_⟩, fun b off n c e => ?_, fun i b off n c x hi e hx => ?_⟩
  · obtain ⟨b, off, x, k1, k2, k3, k4⟩ := h5 i hi
    exact ⟨b, off, x, k1, Nat.lt_of_lt_of_le k2 hs, (cell i b off hi k1).trans k3, (hR x _ ⟨k4, h.each i b off _ _ x hi (h1.trans (by rw [k1])) k3⟩).rd⟩
  · rcases Nat.eq_zero_or_pos L.length with e0 | e0
    · exact Or.inl e0
    · obtain ⟨_, _, _, _, hb, hg⟩ := h.spot e0 e
      exact Or.inr (hG b hb hg)
  · have ea : a = some ⟨b, off, none⟩ := by
      rw [h1] at e
      simp at e
      exact e.1
    rw [cell i b off hi ea] at hx
    obtain ⟨xa, xc, hc2, hT, _⟩ := h.spot hi e
    rw [hx] at hc2
    simp at hc2
    subst hc2
    exact (hR _ _ hT).ap
theorem ToldL.below (h : ToldL w G v L) (hb : Below w.heap.size w w') : ToldL w' G v L := h.keep hb.size (fun k hk _ => hb.block k hk) (fun _ _ hg => hg) (fun x p t => t.below hb)
theorem ToldL.grew (h : ToldL w G v L) (g : Grew G w G' w') : ToldL w' G' v L := h.keep g.turn.size (fun k hk hg => g.turn.block k hk hg) (fun k hk hg => g.off hk hg) (fun x p t => t.grew g)
theorem ToldL.turn (h : ToldL w G v L) (t : TurnG G w w') : ToldL w' G v L := h.grew (Grew.of_turn t)
theorem ToldL.far {base : Nat} (h : FarL w base v L) (hG : ∀ k, G k → k < base) : ToldL w G v L := by
  have hr := h.rs
  obtain ⟨T, u, vals, hv, ho⟩ := h
  have hlen : vals.length = L.length := by have := hv.1; omega
  refine ⟨hr, fun b off n c e => ?_, fun i b off n c x hi e hx => ?_⟩
  · refine Or.inr fun hg => ?_
    have := World.ownsRow.lt hv b (by rw [e]; rfl)
    have := hG b hg
    omega
  · obtain ⟨_, ⟨e2, hn⟩ | ⟨g, cap, cur, e2, hgg, hh, hc, hm, hs, ht⟩⟩ := id hv
    · omega
    · rw [e] at e2
      simp at e2
      obtain ⟨⟨rfl, rfl⟩, rfl, rfl⟩ := e2
      rw [e] at hv
      rw [Nat.zero_add, World.ownsRow.cellAt hv i (by omega)] at hx
      have hp := ho.own i x hx
      exact ApartG.own hp (fun k hk => hG k hk)
end
end Go.Proofs.YtddnfhfangfgeaaGreat.Gf

namespace Go.Proofs.YtddnfhfangfgeaaGreat.Gf
set_option linter.unusedVariables false
set_option linter.unusedSimpArgs false
open Go.RowKit
theorem val_int32 {k : IntKind} {a b : Int} (h : a = b) : Value.int k a = .int k b := by rw [h]
theorem not_u32 {s : Nat} (hs : s < 4294967296) : bits .xor .u32 IntKind.u32.max (s : Int) = ((nt s : Nat) : Int) := by
  rw [show IntKind.u32.max = ((4294967295 : Nat) : Int) from rfl, u32_xor_nat _ _ (by decide) hs, nt_xor hs, Nat.xor_comm]
theorem st_odd {s : Nat} (hs : s < 4294967296) (h : s % 2 = 1) : bits .xor .u32 ((s : Int) / 2) 2197175160 = ((st s : Nat) : Int) := by
  rw [show (s : Int) / 2 = ((s / 2 : Nat) : Int) by omega, show (2197175160 : Int) = ((2197175160 : Nat) : Int) from rfl, u32_xor_nat _ _ (by omega) (by decide)]
  unfold st; rw [if_pos h]
theorem st_even {s : Nat} (h : ¬ s % 2 = 1) : (s : Int) / 2 = ((st s : Nat) : Int) := by
  unfold st; rw [if_neg h]; omega
end Go.Proofs.YtddnfhfangfgeaaGreat.Gf

namespace Go.Proofs.YtddnfhfangfgeaaGreat.Gf
set_option linter.unusedVariables false
set_option linter.unusedSimpArgs false
open Go.RowKit
theorem stK_add (a b x : Nat) : stK (a + b) x = stK a (stK b x) := by
  induction a with
  | zero => rw [Nat.zero_add]; rfl
  | succ a ih => rw [show a + 1 + b = (a + b) + 1 by omega]; show st (stK (a + b) x) = st (stK a (stK b x)); rw [ih]
theorem stK_even {t : Nat} : ∀ m, t % 2 ^ m = 0 → stK m t = t / 2 ^ m
  | 0, _ => by simp [stK]
  | m + 1, h => by
    have h1 : t % 2 ^ m = 0 := by
      have e : t % 2 ^ (m + 1) % 2 ^ m = t % 2 ^ m := Nat.mod_mod_of_dvd t ⟨2, by rw [Nat.pow_succ]⟩
      rw [h] at e
      simpa using e.symm
    show st (stK m t) = _
    rw [stK_even m h1]
    have h2 : t / 2 ^ m % 2 = 0 := by
      rw [Nat.pow_succ, Nat.mod_mul] at h
      have := Nat.two_pow_pos m
      rcases Nat.eq_zero_or_pos (t / 2 ^ m % 2) with h3 | h3
      · exact h3
      · have := Nat.mul_pos this h3
        omega
    unfold st
    rw [if_neg (by omega), Nat.div_div_eq_div_mul, Nat.pow_succ]
/-- where no 1 is left among the lowest bits nothing but shifts is left to do -/
theorem stK_early {q j t : Nat} (hj : j < 8) (ht : t = stK j q) (h : t % 256 * 2 ^ j % 256 = 0) : t / 2 ^ (8 - j) = stK 8 q := by
  have e : stK 8 q = stK (8 - j) t := by rw [ht, ← stK_add]; congr 1; omega
  rw [e, stK_even]
  have h1 : t * 2 ^ j % 256 = 0 := by rw [Nat.mod_mul_mod] at h; exact h
  have h2 : (256 : Nat) = 2 ^ (8 - j) * 2 ^ j := by rw [← Nat.pow_add, show 8 - j + j = 8 by omega]
  rw [h2, Nat.mul_mod_mul_right] at h1
  rcases Nat.mul_eq_zero.1 h1 with h3 | h3
  · exact h3
  · exact absurd h3 (Nat.pos_iff_ne_zero.1 (Nat.two_pow_pos j))
theorem bit0_even {s : Nat} (hs : s < 4294967296) : (bits .and .u32 (s : Int) 1 == 0) = decide (¬ s % 2 = 1) := by
  rw [show (1 : Int) = ((1 : Nat) : Int) from rfl, u32_and_nat s 1 hs (by decide), Bool.eq_iff_iff, beq_iff_eq, decide_eq_true_eq, Nat.and_one_is_mod]
  omega
set_option maxRecDepth 100000 in
set_option maxHeartbeats 1000000 in
theorem cshifted_any {s : Nat} {w : World} {u : Int} (hu : u = (s : Int)) (hs : s < 4294967296) :
    Calls Tryz.prog 183 #[.int .u32 u] w fun e w' => e = .returned (.int .u32 ((st s : Nat) : Int)) ∧ w' = w := by
  subst hu
  have d := bit0_even hs
  by_cases h2 : s % 2 = 1
  · rw [decide_eq_false (by omega)] at d
    have X : Hid (bits .xor .u32 ((s : Int) / 2) 2197175160 = ((st s : Nat) : Int)) := st_odd hs h2
    go_enter Tryz.func183, Tryz.ntmps183
    go_wp2
    go_ret
    exact ⟨by rw [X.out]; rfl, rfl⟩
  · rw [decide_eq_true h2] at d
    have X : Hid ((s : Int) / 2 = ((st s : Nat) : Int)) := st_even h2
    go_enter Tryz.func183, Tryz.ntmps183
    go_wp2
    go_ret
    exact ⟨by rw [X.out]; rfl, rfl⟩
set_option maxRecDepth 100000 in
set_option maxHeartbeats 1000000 in
theorem cmore_any {s : Nat} {v : Value} {p : List UInt8} {w : World} {u : Int} (hu : u = (s : Int)) (hs : s < 4294967296) (hp : Rd w v p) (hl : p.length ≤ 1000000) :
    Calls Tryz.prog 158 #[.int .u32 u, v] w fun e w' => e = .returned (.int .u32 ((more s p : Nat) : Int)) ∧ Below w.heap.size w w' := by
  subst hu
  have N0 := not_u32 hs
  have hn := nt_lt s
  have HM : Hid (more s p = nt (run (nt s) p)) := rfl
  have N1 := not_u32 (run_lt hn p)
  rw [← HM.out] at N1
  obtain ⟨y, ey⟩ : ∃ y, Hid (y = nt s) := ⟨_, rfl⟩
  rw [← ey.out] at N0 hn N1
  obtain ⟨a, c, rfl⟩ := hp.form
  go_enter Tryz.func158, Tryz.ntmps158
  go_wp2
  go_step3
  go_wp2
  go_step3
  go_wp2
  go_loop [5, 13] (fun x i => ∃ k : Nat, k ≤ p.length ∧ i = .int .i64 k ∧ x = .int .u32 ((run y (p.take k) : Nat) : Int)) (fun _ i => p.length - (intOf i).toNat)
  case atStart => exact ⟨0, by omega, rfl, rfl⟩
  case round =>
    obtain ⟨k, hk, rfl, rfl⟩ := hrel
    have hr := run_lt hn (p.take k)
    by_cases hlt : k < p.length
    · have hlt' : (k : Int) < (p.length : Int) := by omega
      rcases hp with ⟨a, c, rfl, _⟩ | ⟨b, o, c, hp0, e0, h1, h2, h3, hpc⟩
      · simp at hlt
      · simp at e0
        obtain ⟨rfl, rfl⟩ := e0
        have c1 := hpc k hlt
        have HS : Hid (run y (p.take (k + 1)) = stK 8 (run y (p.take k) ^^^ (co p k).toNat)) := by show _ = _; rw [run_take y p hlt, co_lt hlt]; rfl
        clear hpc
        obtain ⟨z, ez⟩ : ∃ z, Hid (z = run y (p.take k)) := ⟨_, rfl⟩
        rw [← ez.out] at hr HS ⊢
        have X0 := u32_xor_nat z (co p k).toNat hr (byte32 _)
        have hq := xor32 hr (byte32 (co p k))
        have m0 : (((co p k).toNat : Nat) : Int) % 4294967296 = (((co p k).toNat : Nat) : Int) := by have := (co p k).toNat_lt; omega
        obtain ⟨q, eq⟩ : ∃ q, Hid (q = z ^^^ (co p k).toNat) := ⟨_, rfl⟩
        rw [← eq.out] at X0 hq HS
        go_wp2
        go_loop [5, 8, 21] (fun x l i => ∃ j : Nat, j ≤ 8 ∧ i = .int .i64 j ∧ x = .int .u32 ((stK j q : Nat) : Int)) (fun _ _ i => 8 - (intOf i).toNat)
        case atStart => exact ⟨0, by omega, rfl, rfl⟩
        case round =>
          obtain ⟨j, hj, rfl, rfl⟩ := hrel
          have ht := stK_lt hq j
          have HT : Hid (stK (j + 1) q = st (stK j q)) := rfl
          obtain ⟨t, et⟩ : ∃ t, Hid (t = stK j q) := ⟨_, rfl⟩
          by_cases hj8 : j < 8
          · rw [← et.out] at ht HT ⊢
            by_cases hz : t % 256 * 2 ^ j % 256 = 0
            · have D : ((t : Int) % 256 * 2 ^ j % 256 == 0) = true := by rw [beq_iff_eq]; exact_mod_cast hz
              have HE : Hid (t / 2 ^ (8 - j) = stK 8 q) := stK_early hj8 et.out hz
              go_wp2
              exact ⟨⟨k + 1, by omega, by go_num, val_int32 (by rw [HS.out, ← HE.out]; norm_cast)⟩, by simp [intOf]; omega⟩
            · have D : ((t : Int) % 256 * 2 ^ j % 256 == 0) = false := by rw [beq_eq_false_iff_ne]; exact_mod_cast hz
              go_wp2_with fail
              refine (cshifted_any rfl ht).mono ?_
              rintro e w' ⟨rfl, rfl⟩
              go_wp2
              go_round
              case rel => exact ⟨j + 1, by omega, by go_num, by rw [HT.out]⟩
              case measure => simp [intOf]; omega
          · have e : j = 8 := by omega
            subst e
            go_wp2
            go_round
            case rel => exact ⟨k + 1, by omega, by go_num, by rw [HS.out]⟩
            case measure => simp [intOf]; omega
    · have e : k = p.length := by omega
      have ht : p.take k = p := List.take_of_length_le (by omega)
      have hge : ¬ (k : Int) < (p.length : Int) := by omega
      rw [ht]
      clear ht e
      go_wp2
      try rw [Exit.noGoto_ret]
      go_ret
      exact ⟨rfl, Below.refl _ _⟩
set_option maxRecDepth 100000 in
set_option maxHeartbeats 1000000 in
theorem csum_any {v : Value} {p : List UInt8} {w : World} (hp : Rd w v p) (hl : p.length ≤ 1000000) :
    Calls Tryz.prog 126 #[v] w fun e w' => e = .returned (.int .u32 ((more 0 p : Nat) : Int)) ∧ Below w.heap.size w w' := by
  go_enter Tryz.func126, Tryz.ntmps126
  go_wp2_with fail
  refine (cmore_any (s := 0) rfl (by decide) hp hl).mono ?_
  rintro e w' ⟨rfl, b⟩
  go_wp2
  go_ret
  exact ⟨rfl, b⟩
end Go.Proofs.YtddnfhfangfgeaaGreat.Gf

namespace Go.Proofs.YtddnfhfangfgeaaGreat.Gf
set_option linter.unusedVariables false
set_option linter.unusedSimpArgs false
open Go.RowKit
theorem conv_str {w : World} {v : Value} {p : List UInt8} (h : Rd w v p) : Sem.run Tryz.prog (convert 36 9 v) w = .ok (.string ⟨p.toArray⟩) w := by
  rcases h with ⟨a, c, rfl, rfl, _⟩ | ⟨b, off, cap, hp0, rfl, h1, h2, h3, hpc⟩
  · rcases a with _ | a
    · kernel_rfl
    · kernel_rfl
  · rw [run_convert_bytes_arg (P := Tryz.prog) w 36 5 Tryz.underlying36 Tryz.underlying5 b off p.length cap (p.map fun x => ((x.toNat : Nat) : Int)) (by simp) (fun i hi => by rw [hpc i hi, co_lt hi]; simp [List.getD, hi]) 9 Tryz.underlying9]
    unfold strOfNums
    congr 4
    rw [List.map_map]
    conv => rhs; rw [← List.map_id p]
    apply List.map_congr_left
    intro b _
    simp
set_option maxRecDepth 100000 in
set_option maxHeartbeats 1000000 in
theorem beq_any {va vb : Value} {p q : List UInt8} {w : World} (hp : Rd w va p) (hq : Rd w vb q) : Calls Tryz.prog 190 #[va, vb] w fun e w' => e = .returned (.bool (sameB p q)) ∧ w' = w := by
  have h1 := conv_str hp
  have h2 := conv_str hq
  obtain ⟨a, c, rfl⟩ := hp.form
  obtain ⟨a', c', rfl⟩ := hq.form
  clear hp hq
  go_enter Tryz.func190, Tryz.ntmps190
  go_wp2
  go_ret
  have e : (p == q) = sameB p q := by unfold sameB; rw [Bool.eq_iff_iff]; simp
  exact ⟨congrArg (fun b => Ending.returned (.bool b)) e, rfl⟩
end Go.Proofs.YtddnfhfangfgeaaGreat.Gf

namespace Go.Proofs.YtddnfhfangfgeaaGreat.Gf
set_option linter.unusedVariables false
set_option linter.unusedSimpArgs false
open Go.RowKit
theorem smay_any {n : Int} {w : World} : Calls Tryz.prog 124 #[.int .i64 n] w fun e w' => e = .returned (.bool (decide (0 ≤ n ∧ n ≤ 2147483647))) ∧ w' = w := by
  by_cases h0 : 0 ≤ n
  · have h0' : n ≥ 0 := h0
    by_cases h1 : n ≤ 2147483647
    · have E : decide (0 ≤ n ∧ n ≤ 2147483647) = true := decide_eq_true ⟨h0, h1⟩
      rw [E]
      clear E
      go_enter Tryz.func124, Tryz.ntmps124
      go_wp2
      go_ret
      exact ⟨rfl, rfl⟩
    · have E : decide (0 ≤ n ∧ n ≤ 2147483647) = false := decide_eq_false (by omega)
      rw [E]
      clear E
      go_enter Tryz.func124, Tryz.ntmps124
      go_wp2
      go_ret
      exact ⟨rfl, rfl⟩
  · have h0' : ¬ n ≥ 0 := h0
    have E : decide (0 ≤ n ∧ n ≤ 2147483647) = false := decide_eq_false (by omega)
    rw [E]
    clear E
    go_enter Tryz.func124, Tryz.ntmps124
    go_wp2
    go_ret
    exact ⟨rfl, rfl⟩
theorem info1_u8s : (Tryz.prog.info? 5).map (·.size) = some 1 := by
  obtain ⟨i0, hi, hz0, hz1, hz2⟩ := info_parts info_u8
  rw [hi]
  simp [hz1]
theorem wrap_u8 (m : Nat) : IntKind.u8.wrap (m : Int) = (((UInt8.ofNat m).toNat : Nat) : Int) := by
  rw [IntKind.wrap_u8, UInt8.toNat_ofNat']
  omega
set_option maxRecDepth 100000 in
set_option maxHeartbeats 4000000 in
theorem slay_any {w : World} {lb bb g L k n base : Nat} {f : Nat → UInt8} {u : Int} (hu : u = (n : Int)) (c1 : w.cell? ⟨lb, 0, none⟩ = some (.int .i64 (k : Int))) (c2 : w.cell? ⟨bb, 0, none⟩ = some (.slice (some ⟨g, 0, none⟩) L L)) (fz : w.frozen? ⟨lb, 0, none⟩ = false) (hR : RowF w base 5 g L L f) (hk : k + 4 ≤ L) (hL : L ≤ 5000) (l1 : lb < w.heap.size) (l2 : bb < w.heap.size) (n1 : lb ≠ g) (n2 : bb ≠ g) (n3 : lb ≠ bb) :
    Calls Tryz.prog 125 #[.int .u32 u, .pointer (some ⟨lb, 0, none⟩), .pointer (some ⟨bb, 0, none⟩)] w fun e w' => e = .returned (.tuple #[]) ∧ w'.cell? ⟨lb, 0, none⟩ = some (.int .i64 ((k + 4 : Nat) : Int)) ∧ w'.cell? ⟨bb, 0, none⟩ = some (.slice (some ⟨g, 0, none⟩) L L) ∧ w'.frozen? ⟨lb, 0, none⟩ = false ∧ RowF w' base 5 g L L (putAt f k 4 (co (fo n))) ∧ TurnL [lb, g] w w' := by
  subst hu
  obtain ⟨x0, hx0⟩ : ∃ x, Hid (x = UInt8.ofNat (n / 16777216)) := ⟨_, rfl⟩
  obtain ⟨x1, hx1⟩ : ∃ x, Hid (x = UInt8.ofNat (n / 65536)) := ⟨_, rfl⟩
  obtain ⟨x2, hx2⟩ : ∃ x, Hid (x = UInt8.ofNat (n / 256)) := ⟨_, rfl⟩
  obtain ⟨x3, hx3⟩ : ∃ x, Hid (x = UInt8.ofNat n) := ⟨_, rfl⟩
  have q0 : IntKind.u8.wrap ((n : Int) / 16777216) = ((x0.toNat : Nat) : Int) := by rw [hx0.out]; exact wrap_u8 (n / 16777216)
  have q1 : IntKind.u8.wrap ((n : Int) / 65536) = ((x1.toNat : Nat) : Int) := by rw [hx1.out]; exact wrap_u8 (n / 65536)
  have q2 : IntKind.u8.wrap ((n : Int) / 256) = ((x2.toNat : Nat) : Int) := by rw [hx2.out]; exact wrap_u8 (n / 256)
  have q3 : IntKind.u8.wrap (n : Int) = ((x3.toNat : Nat) : Int) := by rw [hx3.out]; exact wrap_u8 n
  have hF : Hid (fo n = [x0, x1, x2, x3]) := by show _ = _; rw [hx0.out, hx1.out, hx2.out, hx3.out]; rfl
  rw [hF.out]
  clear hF hx0 hx1 hx2 hx3
  have RL : Rd (w.drew.alloc (.cells #[.int .u8 ((x0.toNat : Nat) : Int), .int .u8 ((x1.toNat : Nat) : Int), .int .u8 ((x2.toNat : Nat) : Int), .int .u8 ((x3.toNat : Nat) : Int)] 5)) (.slice (some ⟨w.heap.size, 0, none⟩) 4 4) [x0, x1, x2, x3] := rd_lit (w := w.drew) [x0, x1, x2, x3] rfl rfl (by decide)
  have hfl : [x0, x1, x2, x3].length = 4 := rfl
  have RA : RowF (w.drew.alloc (.cells #[.int .u8 ((x0.toNat : Nat) : Int), .int .u8 ((x1.toNat : Nat) : Int), .int .u8 ((x2.toNat : Nat) : Int), .int .u8 ((x3.toNat : Nat) : Int)] 5)) base 5 g L L f := hR.later (((Below.refl _ _).drew).alloc (Nat.le_refl _) _)
  have c1a : ∀ o, (w.drew.alloc o).cell? ⟨lb, 0, none⟩ = some (.int .i64 (k : Int)) := fun o => (World.cell?_alloc_past _ _ _ l1).trans c1
  have c2a : ∀ o, (w.drew.alloc o).cell? ⟨bb, 0, none⟩ = some (.slice (some ⟨g, 0, none⟩) L L) := fun o => (World.cell?_alloc_past _ _ _ l2).trans c2
  have fza : ∀ o, (w.drew.alloc o).frozen? ⟨lb, 0, none⟩ = false := fun o => (((Below.refl w.heap.size w).drew.alloc (Nat.le_refl _) o).frozen (p := ⟨lb, 0, none⟩) l1).trans fz
  have hdl : 4 ≤ L - k := by omega
  obtain ⟨m, hm⟩ : ∃ m, Hid (m = k + 4) := ⟨_, rfl⟩
  rw [← hm.out]
  have g0 : (k : Int) + 4 = (m : Int) := by have := hm.out; omega
  have gw : IntKind.i64.wrap (m : Int) = (m : Int) := by rw [IntKind.wrap_i64]; have := hm.out; omega
  clear hm
  have g1 : (k : Int) ≤ (L : Int) := by omega
  have g2 : ¬ L = k := by omega
  have g3 : k < L := by omega
  have FIN : ∀ v3, Only g (w.drew.alloc (.cells #[.int .u8 ((x0.toNat : Nat) : Int), .int .u8 ((x1.toNat : Nat) : Int), .int .u8 ((x2.toNat : Nat) : Int), .int .u8 ((x3.toNat : Nat) : Int)] 5)) v3 → RowF v3 base 5 g L L (putAt f k 4 (co [x0, x1, x2, x3])) → Hid ((v3.setCell ⟨lb, 0, none⟩ (.int .i64 (m : Int))).cell? ⟨lb, 0, none⟩ = some (.int .i64 (m : Int)) ∧ (v3.setCell ⟨lb, 0, none⟩ (.int .i64 (m : Int))).cell? ⟨bb, 0, none⟩ = some (.slice (some ⟨g, 0, none⟩) L L) ∧ (v3.setCell ⟨lb, 0, none⟩ (.int .i64 (m : Int))).frozen? ⟨lb, 0, none⟩ = false ∧ RowF (v3.setCell ⟨lb, 0, none⟩ (.int .i64 (m : Int))) base 5 g L L (putAt f k 4 (co [x0, x1, x2, x3])) ∧ TurnL [lb, g] w (v3.setCell ⟨lb, 0, none⟩ (.int .i64 (m : Int)))) := by
    intro v3 O3 R3
    have c1v := (O3.cell (p := ⟨lb, 0, none⟩) n1).trans (c1a _)
    have c2v := (O3.cell (p := ⟨bb, 0, none⟩) n2).trans (c2a _)
    have fzv := (O3.frozen (p := ⟨lb, 0, none⟩) n1).trans (fza _)
    have OO := (Only.refl lb v3).setCell 0 (.int .i64 (m : Int))
    have T1 : TurnL [lb, g] w (w.drew.alloc (.cells #[.int .u8 ((x0.toNat : Nat) : Int), .int .u8 ((x1.toNat : Nat) : Int), .int .u8 ((x2.toNat : Nat) : Int), .int .u8 ((x3.toNat : Nat) : Int)] 5)) := Below.turnL (((Below.refl _ _).drew).alloc (Nat.le_refl _) _) _
    refine ⟨by simp [go_sem, c1v], (OO.cell (p := ⟨bb, 0, none⟩) n3.symm).trans c2v, by simp [go_sem, fzv], R3.only n1.symm OO, (T1.trans (O3.turnL (by simp))).trans (OO.turnL (by simp))⟩
  clear hR
  go_enter Tryz.func125, Tryz.ntmps125
  go_wp2
  -- REGION
  refine wp_region_held_drew (S := (fun wx => wx.cell? ⟨bb, 0, none⟩ = some (.slice (some ⟨g, 0, none⟩) L L))) (by kernel_rfl) ?_ (fun hHeld => ?_)
  · exact c2
  refine wpAnyH_take (i := 1) (v := ?_) rfl (by kernel_rfl) (by kernel_rfl) (by kernel_rfl) (fun _ _ _ h => h) (Or.inl ⟨by rfl, ?_⟩) (by assumption) ?_
  rotate_left
  · intro w hSw; (try dsimp only at hSw); go_simp; try with_reducible rfl
  try simp only [List.getElem_toArray, List.getElem_cons_succ, List.getElem_cons_zero, Act.put, List.setIfInBounds_toArray, List.set_cons_zero, List.set_cons_succ]
  refine wpAnyH_take (i := 4) (v := ?_) rfl (by kernel_rfl) (by kernel_rfl) (by kernel_rfl) (fun _ _ _ h => h) (Or.inl ⟨by rfl, ?_⟩) (by assumption) ?_
  rotate_left
  · intro w hSw; (try dsimp only at hSw); go_simp; try with_reducible rfl
  try simp only [List.getElem_toArray, List.getElem_cons_succ, List.getElem_cons_zero, Act.put, List.setIfInBounds_toArray, List.set_cons_zero, List.set_cons_succ]
  refine wpAnyH_take (i := 5) (v := ?_) rfl (by kernel_rfl) (by kernel_rfl) (by kernel_rfl) (fun _ _ _ h => h) (Or.inl ⟨by rfl, ?_⟩) (by assumption) ?_
  rotate_left
  · intro w hSw; (try dsimp only at hSw); go_simp; try with_reducible rfl
  try simp only [List.getElem_toArray, List.getElem_cons_succ, List.getElem_cons_zero, Act.put, List.setIfInBounds_toArray, List.set_cons_zero, List.set_cons_succ]
  refine wpAnyH_take (i := 6) (v := ?_) rfl (by kernel_rfl) (by kernel_rfl) (by kernel_rfl) (fun _ _ _ h => h) (Or.inl ⟨by rfl, ?_⟩) (by assumption) ?_
  rotate_left
  · intro w hSw; (try dsimp only at hSw); go_simp; try with_reducible rfl
  try simp only [List.getElem_toArray, List.getElem_cons_succ, List.getElem_cons_zero, Act.put, List.setIfInBounds_toArray, List.set_cons_zero, List.set_cons_succ]
  refine wpAnyH_take (i := 7) (v := ?_) rfl (by kernel_rfl) (by kernel_rfl) (by kernel_rfl) (fun _ _ _ h => h) (Or.inl ⟨by rfl, ?_⟩) (by assumption) ?_
  rotate_left
  · intro w hSw; (try dsimp only at hSw); go_simp; try with_reducible rfl
  try simp only [List.getElem_toArray, List.getElem_cons_succ, List.getElem_cons_zero, Act.put, List.setIfInBounds_toArray, List.set_cons_zero, List.set_cons_succ]
  refine wpAnyH_take (i := 8) (v := ?_) rfl (by kernel_rfl) (by kernel_rfl) (by kernel_rfl) (fun _ _ _ h => h) (Or.inl ⟨by rfl, ?_⟩) (by assumption) ?_
  rotate_left
  · intro w hSw; (try dsimp only at hSw); go_simp; try with_reducible rfl
  try simp only [List.getElem_toArray, List.getElem_cons_succ, List.getElem_cons_zero, Act.put, List.setIfInBounds_toArray, List.set_cons_zero, List.set_cons_succ]
  refine wpAnyH_take (i := 9) (v := ?_) rfl (by kernel_rfl) (by kernel_rfl) (by kernel_rfl) (fun _ _ _ h => h) (Or.inl ⟨by rfl, ?_⟩) (by assumption) ?_
  rotate_left
  · intro w hSw; (try dsimp only at hSw); go_simp; try with_reducible rfl
  try simp only [List.getElem_toArray, List.getElem_cons_succ, List.getElem_cons_zero, Act.put, List.setIfInBounds_toArray, List.set_cons_zero, List.set_cons_succ]
  refine wpAnyH_take (i := 10) (v := ?_) rfl (by kernel_rfl) (by kernel_rfl) (by kernel_rfl) (fun _ _ _ h => h) (Or.inl ⟨by rfl, ?_⟩) (by assumption) ?_
  rotate_left
  · intro w hSw; (try dsimp only at hSw); go_simp; try with_reducible rfl
  try simp only [List.getElem_toArray, List.getElem_cons_succ, List.getElem_cons_zero, Act.put, List.setIfInBounds_toArray, List.set_cons_zero, List.set_cons_succ]
  refine wpAnyH_take (i := 11) (v := ?_) rfl (by kernel_rfl) (by kernel_rfl) (by kernel_rfl) (fun _ _ _ h => h) (Or.inl ⟨by rfl, ?_⟩) (by assumption) ?_
  rotate_left
  · intro w hSw; (try dsimp only at hSw); go_simp; try with_reducible rfl
  try simp only [List.getElem_toArray, List.getElem_cons_succ, List.getElem_cons_zero, Act.put, List.setIfInBounds_toArray, List.set_cons_zero, List.set_cons_succ]
  refine wpAnyH_take (i := 12) (v := ?_) rfl (by kernel_rfl) (by kernel_rfl) (by kernel_rfl) (fun _ _ _ h => h) (Or.inl ⟨by rfl, ?_⟩) (by assumption) ?_
  rotate_left
  · intro w hSw; (try dsimp only at hSw); go_simp; try with_reducible rfl
  try simp only [List.getElem_toArray, List.getElem_cons_succ, List.getElem_cons_zero, Act.put, List.setIfInBounds_toArray, List.set_cons_zero, List.set_cons_succ]
  refine wpAnyH_take (i := 13) (v := ?_) rfl (by kernel_rfl) (by kernel_rfl) (by kernel_rfl) (fun _ _ _ h => h) (Or.inl ⟨by rfl, ?_⟩) (by assumption) ?_
  rotate_left
  · intro w hSw; (try dsimp only at hSw); go_simp; try with_reducible rfl
  try simp only [List.getElem_toArray, List.getElem_cons_succ, List.getElem_cons_zero, Act.put, List.setIfInBounds_toArray, List.set_cons_zero, List.set_cons_succ]
  refine wpAnyH_take (i := 14) (v := ?_) rfl (by kernel_rfl) (by kernel_rfl) (by kernel_rfl) (fun _ _ _ h => h) (Or.inl ⟨by rfl, ?_⟩) (by assumption) ?_
  rotate_left
  · intro w hSw; (try dsimp only at hSw); go_simp; try with_reducible rfl
  try simp only [List.getElem_toArray, List.getElem_cons_succ, List.getElem_cons_zero, Act.put, List.setIfInBounds_toArray, List.set_cons_zero, List.set_cons_succ]
  refine wpAnyH_ready (rs := [0, 2, 15]) (by kernel_rfl) (by simp) ?_
  refine AllReadyH.cons rfl (fun K hK => ?_) (AllReadyH.cons rfl (fun K hK => ?_) (AllReadyH.cons rfl (fun K hK => ?_) AllReadyH.nil))
  · go_simp
    refine hK.out _ _ ?_ (fun hHeld => ?_)
    · assumption
    clear hK K
    try simp only [List.getElem_toArray, List.getElem_cons_succ, List.getElem_cons_zero, Act.put, List.setIfInBounds_toArray, List.set_cons_zero, List.set_cons_succ]
    refine wpAnyH_ready (rs := [2, 15]) (by kernel_rfl) (by simp) ?_
    refine AllReadyH.cons rfl (fun K hK => ?_) (AllReadyH.cons rfl (fun K hK => ?_) AllReadyH.nil)
    · go_simp
      refine hK.out _ _ ?_ (fun hHeld => ?_)
      · assumption
      clear hK K
      try simp only [List.getElem_toArray, List.getElem_cons_succ, List.getElem_cons_zero, Act.put, List.setIfInBounds_toArray, List.set_cons_zero, List.set_cons_succ]
      refine wpAnyH_take (i := 3) (v := ?_) rfl (by kernel_rfl) (by kernel_rfl) (by kernel_rfl) (fun _ _ _ h => h) (Or.inl ⟨by rfl, ?_⟩) (by assumption) ?_
      rotate_left
      · intro w hSw; (try dsimp only at hSw); go_simp; try with_reducible rfl
      try simp only [List.getElem_toArray, List.getElem_cons_succ, List.getElem_cons_zero, Act.put, List.setIfInBounds_toArray, List.set_cons_zero, List.set_cons_succ]
      refine wpAnyH_ready (rs := [15]) (by kernel_rfl) (by simp) ?_
      refine AllReadyH.cons rfl (fun K hK => ?_) AllReadyH.nil
      go_simp
      refine hK.out _ _ ?_ (fun hHeld => ?_)
      · exact c2a _
      clear hK K
      try simp only [List.getElem_toArray, List.getElem_cons_succ, List.getElem_cons_zero, Act.put, List.setIfInBounds_toArray, List.set_cons_zero, List.set_cons_succ]
      refine wpAnyH_ready (rs := [16]) (by kernel_rfl) (by simp) ?_
      refine AllReadyH.cons rfl (fun K hK => ?_) AllReadyH.nil
      refine step_copy_rd rfl (.tmp 7) (.tmp 19) 36 36 rfl 5 Tryz.underlying36 info1_u8s rfl rfl RL hfl hdl RA (by omega) ?_
      intro v3 O3 R3
      have c1v := (O3.cell (p := ⟨lb, 0, none⟩) n1).trans (c1a (.cells #[.int .u8 ((x0.toNat : Nat) : Int), .int .u8 ((x1.toNat : Nat) : Int), .int .u8 ((x2.toNat : Nat) : Int), .int .u8 ((x3.toNat : Nat) : Int)] 5))
      have c2v := (O3.cell (p := ⟨bb, 0, none⟩) n2).trans (c2a (.cells #[.int .u8 ((x0.toNat : Nat) : Int), .int .u8 ((x1.toNat : Nat) : Int), .int .u8 ((x2.toNat : Nat) : Int), .int .u8 ((x3.toNat : Nat) : Int)] 5))
      have fzv := (O3.frozen (p := ⟨lb, 0, none⟩) n1).trans (fza (.cells #[.int .u8 ((x0.toNat : Nat) : Int), .int .u8 ((x1.toNat : Nat) : Int), .int .u8 ((x2.toNat : Nat) : Int), .int .u8 ((x3.toNat : Nat) : Int)] 5))
      have FW := FIN v3 O3 R3
      clear FIN RL RA
      refine hK.out _ _ ?_ (fun hHeld => ?_)
      · exact c2v
      clear hK K
      try simp only [List.getElem_toArray, List.getElem_cons_succ, List.getElem_cons_zero, Act.put, List.setIfInBounds_toArray, List.set_cons_zero, List.set_cons_succ]
      refine wpAnyH_take (i := 17) (v := ?_) rfl (by kernel_rfl) (by kernel_rfl) (by kernel_rfl) (fun _ _ _ h => h) (Or.inl ⟨by rfl, ?_⟩) (by assumption) ?_
      rotate_left
      · intro w hSw; (try dsimp only at hSw); go_simp; try with_reducible rfl
      try simp only [List.getElem_toArray, List.getElem_cons_succ, List.getElem_cons_zero, Act.put, List.setIfInBounds_toArray, List.set_cons_zero, List.set_cons_succ]
      refine wpAnyH_ready (rs := [18]) (by kernel_rfl) (by simp) ?_
      refine AllReadyH.cons rfl (fun K hK => ?_) AllReadyH.nil
      go_simp
      refine hK.out _ _ ?_ (fun hHeld => ?_)
      · exact (((Only.refl lb v3).setCell 0 _).cell (p := ⟨bb, 0, none⟩) n3.symm).trans c2v
      clear hK K
      try simp only [List.getElem_toArray, List.getElem_cons_succ, List.getElem_cons_zero, Act.put, List.setIfInBounds_toArray, List.set_cons_zero, List.set_cons_succ]
      refine wpAnyH_done (by kernel_rfl) ?_ _
      try simp only [List.getElem_toArray, List.getElem_cons_succ, List.getElem_cons_zero, Act.put, List.setIfInBounds_toArray, List.set_cons_zero, List.set_cons_succ]
      clear c1v c2v fzv hHeld
      go_wp2
      go_end0
      exact ⟨rfl, FW.out⟩
    · go_simp
      refine hK.out _ _ ?_ (fun hHeld => ?_)
      · exact c2a _
      clear hK K
      try simp only [List.getElem_toArray, List.getElem_cons_succ, List.getElem_cons_zero, Act.put, List.setIfInBounds_toArray, List.set_cons_zero, List.set_cons_succ]
      refine wpAnyH_ready (rs := [2]) (by kernel_rfl) (by simp) ?_
      refine AllReadyH.cons rfl (fun K hK => ?_) AllReadyH.nil
      go_simp
      refine hK.out _ _ ?_ (fun hHeld => ?_)
      · assumption
      clear hK K
      try simp only [List.getElem_toArray, List.getElem_cons_succ, List.getElem_cons_zero, Act.put, List.setIfInBounds_toArray, List.set_cons_zero, List.set_cons_succ]
      refine wpAnyH_take (i := 3) (v := ?_) rfl (by kernel_rfl) (by kernel_rfl) (by kernel_rfl) (fun _ _ _ h => h) (Or.inl ⟨by rfl, ?_⟩) (by assumption) ?_
      rotate_left
      · intro w hSw; (try dsimp only at hSw); go_simp; try with_reducible rfl
      try simp only [List.getElem_toArray, List.getElem_cons_succ, List.getElem_cons_zero, Act.put, List.setIfInBounds_toArray, List.set_cons_zero, List.set_cons_succ]
      refine wpAnyH_ready (rs := [16]) (by kernel_rfl) (by simp) ?_
      refine AllReadyH.cons rfl (fun K hK => ?_) AllReadyH.nil
      refine step_copy_rd rfl (.tmp 7) (.tmp 19) 36 36 rfl 5 Tryz.underlying36 info1_u8s rfl rfl RL hfl hdl RA (by omega) ?_
      intro v3 O3 R3
      have c1v := (O3.cell (p := ⟨lb, 0, none⟩) n1).trans (c1a (.cells #[.int .u8 ((x0.toNat : Nat) : Int), .int .u8 ((x1.toNat : Nat) : Int), .int .u8 ((x2.toNat : Nat) : Int), .int .u8 ((x3.toNat : Nat) : Int)] 5))
      have c2v := (O3.cell (p := ⟨bb, 0, none⟩) n2).trans (c2a (.cells #[.int .u8 ((x0.toNat : Nat) : Int), .int .u8 ((x1.toNat : Nat) : Int), .int .u8 ((x2.toNat : Nat) : Int), .int .u8 ((x3.toNat : Nat) : Int)] 5))
      have fzv := (O3.frozen (p := ⟨lb, 0, none⟩) n1).trans (fza (.cells #[.int .u8 ((x0.toNat : Nat) : Int), .int .u8 ((x1.toNat : Nat) : Int), .int .u8 ((x2.toNat : Nat) : Int), .int .u8 ((x3.toNat : Nat) : Int)] 5))
      have FW := FIN v3 O3 R3
      clear FIN RL RA
      refine hK.out _ _ ?_ (fun hHeld => ?_)
      · exact c2v
      clear hK K
      try simp only [List.getElem_toArray, List.getElem_cons_succ, List.getElem_cons_zero, Act.put, List.setIfInBounds_toArray, List.set_cons_zero, List.set_cons_succ]
      refine wpAnyH_take (i := 17) (v := ?_) rfl (by kernel_rfl) (by kernel_rfl) (by kernel_rfl) (fun _ _ _ h => h) (Or.inl ⟨by rfl, ?_⟩) (by assumption) ?_
      rotate_left
      · intro w hSw; (try dsimp only at hSw); go_simp; try with_reducible rfl
      try simp only [List.getElem_toArray, List.getElem_cons_succ, List.getElem_cons_zero, Act.put, List.setIfInBounds_toArray, List.set_cons_zero, List.set_cons_succ]
      refine wpAnyH_ready (rs := [18]) (by kernel_rfl) (by simp) ?_
      refine AllReadyH.cons rfl (fun K hK => ?_) AllReadyH.nil
      go_simp
      refine hK.out _ _ ?_ (fun hHeld => ?_)
      · exact (((Only.refl lb v3).setCell 0 _).cell (p := ⟨bb, 0, none⟩) n3.symm).trans c2v
      clear hK K
      try simp only [List.getElem_toArray, List.getElem_cons_succ, List.getElem_cons_zero, Act.put, List.setIfInBounds_toArray, List.set_cons_zero, List.set_cons_succ]
      refine wpAnyH_done (by kernel_rfl) ?_ _
      try simp only [List.getElem_toArray, List.getElem_cons_succ, List.getElem_cons_zero, Act.put, List.setIfInBounds_toArray, List.set_cons_zero, List.set_cons_succ]
      clear c1v c2v fzv hHeld
      go_wp2
      go_end0
      exact ⟨rfl, FW.out⟩
  · go_simp
    refine hK.out _ _ ?_ (fun hHeld => ?_)
    · assumption
    clear hK K
    try simp only [List.getElem_toArray, List.getElem_cons_succ, List.getElem_cons_zero, Act.put, List.setIfInBounds_toArray, List.set_cons_zero, List.set_cons_succ]
    refine wpAnyH_take (i := 3) (v := ?_) rfl (by kernel_rfl) (by kernel_rfl) (by kernel_rfl) (fun _ _ _ h => h) (Or.inl ⟨by rfl, ?_⟩) (by assumption) ?_
    rotate_left
    · intro w hSw; (try dsimp only at hSw); go_simp; try with_reducible rfl
    try simp only [List.getElem_toArray, List.getElem_cons_succ, List.getElem_cons_zero, Act.put, List.setIfInBounds_toArray, List.set_cons_zero, List.set_cons_succ]
    refine wpAnyH_ready (rs := [0, 15]) (by kernel_rfl) (by simp) ?_
    refine AllReadyH.cons rfl (fun K hK => ?_) (AllReadyH.cons rfl (fun K hK => ?_) AllReadyH.nil)
    · go_simp
      refine hK.out _ _ ?_ (fun hHeld => ?_)
      · assumption
      clear hK K
      try simp only [List.getElem_toArray, List.getElem_cons_succ, List.getElem_cons_zero, Act.put, List.setIfInBounds_toArray, List.set_cons_zero, List.set_cons_succ]
      refine wpAnyH_ready (rs := [15]) (by kernel_rfl) (by simp) ?_
      refine AllReadyH.cons rfl (fun K hK => ?_) AllReadyH.nil
      go_simp
      refine hK.out _ _ ?_ (fun hHeld => ?_)
      · exact c2a _
      clear hK K
      try simp only [List.getElem_toArray, List.getElem_cons_succ, List.getElem_cons_zero, Act.put, List.setIfInBounds_toArray, List.set_cons_zero, List.set_cons_succ]
      refine wpAnyH_ready (rs := [16]) (by kernel_rfl) (by simp) ?_
      refine AllReadyH.cons rfl (fun K hK => ?_) AllReadyH.nil
      refine step_copy_rd rfl (.tmp 7) (.tmp 19) 36 36 rfl 5 Tryz.underlying36 info1_u8s rfl rfl RL hfl hdl RA (by omega) ?_
      intro v3 O3 R3
      have c1v := (O3.cell (p := ⟨lb, 0, none⟩) n1).trans (c1a (.cells #[.int .u8 ((x0.toNat : Nat) : Int), .int .u8 ((x1.toNat : Nat) : Int), .int .u8 ((x2.toNat : Nat) : Int), .int .u8 ((x3.toNat : Nat) : Int)] 5))
      have c2v := (O3.cell (p := ⟨bb, 0, none⟩) n2).trans (c2a (.cells #[.int .u8 ((x0.toNat : Nat) : Int), .int .u8 ((x1.toNat : Nat) : Int), .int .u8 ((x2.toNat : Nat) : Int), .int .u8 ((x3.toNat : Nat) : Int)] 5))
      have fzv := (O3.frozen (p := ⟨lb, 0, none⟩) n1).trans (fza (.cells #[.int .u8 ((x0.toNat : Nat) : Int), .int .u8 ((x1.toNat : Nat) : Int), .int .u8 ((x2.toNat : Nat) : Int), .int .u8 ((x3.toNat : Nat) : Int)] 5))
      have FW := FIN v3 O3 R3
      clear FIN RL RA
      refine hK.out _ _ ?_ (fun hHeld => ?_)
      · exact c2v
      clear hK K
      try simp only [List.getElem_toArray, List.getElem_cons_succ, List.getElem_cons_zero, Act.put, List.setIfInBounds_toArray, List.set_cons_zero, List.set_cons_succ]
      refine wpAnyH_take (i := 17) (v := ?_) rfl (by kernel_rfl) (by kernel_rfl) (by kernel_rfl) (fun _ _ _ h => h) (Or.inl ⟨by rfl, ?_⟩) (by assumption) ?_
      rotate_left
      · intro w hSw; (try dsimp only at hSw); go_simp; try with_reducible rfl
      try simp only [List.getElem_toArray, List.getElem_cons_succ, List.getElem_cons_zero, Act.put, List.setIfInBounds_toArray, List.set_cons_zero, List.set_cons_succ]
      refine wpAnyH_ready (rs := [18]) (by kernel_rfl) (by simp) ?_
      refine AllReadyH.cons rfl (fun K hK => ?_) AllReadyH.nil
      go_simp
      refine hK.out _ _ ?_ (fun hHeld => ?_)
      · exact (((Only.refl lb v3).setCell 0 _).cell (p := ⟨bb, 0, none⟩) n3.symm).trans c2v
      clear hK K
      try simp only [List.getElem_toArray, List.getElem_cons_succ, List.getElem_cons_zero, Act.put, List.setIfInBounds_toArray, List.set_cons_zero, List.set_cons_succ]
      refine wpAnyH_done (by kernel_rfl) ?_ _
      try simp only [List.getElem_toArray, List.getElem_cons_succ, List.getElem_cons_zero, Act.put, List.setIfInBounds_toArray, List.set_cons_zero, List.set_cons_succ]
      clear c1v c2v fzv hHeld
      go_wp2
      go_end0
      exact ⟨rfl, FW.out⟩
    · go_simp
      refine hK.out _ _ ?_ (fun hHeld => ?_)
      · exact c2a _
      clear hK K
      try simp only [List.getElem_toArray, List.getElem_cons_succ, List.getElem_cons_zero, Act.put, List.setIfInBounds_toArray, List.set_cons_zero, List.set_cons_succ]
      refine wpAnyH_ready (rs := [0, 16]) (by kernel_rfl) (by simp) ?_
      refine AllReadyH.cons rfl (fun K hK => ?_) (AllReadyH.cons rfl (fun K hK => ?_) AllReadyH.nil)
      · go_simp
        refine hK.out _ _ ?_ (fun hHeld => ?_)
        · assumption
        clear hK K
        try simp only [List.getElem_toArray, List.getElem_cons_succ, List.getElem_cons_zero, Act.put, List.setIfInBounds_toArray, List.set_cons_zero, List.set_cons_succ]
        refine wpAnyH_ready (rs := [16]) (by kernel_rfl) (by simp) ?_
        refine AllReadyH.cons rfl (fun K hK => ?_) AllReadyH.nil
        refine step_copy_rd rfl (.tmp 7) (.tmp 19) 36 36 rfl 5 Tryz.underlying36 info1_u8s rfl rfl RL hfl hdl RA (by omega) ?_
        intro v3 O3 R3
        have c1v := (O3.cell (p := ⟨lb, 0, none⟩) n1).trans (c1a (.cells #[.int .u8 ((x0.toNat : Nat) : Int), .int .u8 ((x1.toNat : Nat) : Int), .int .u8 ((x2.toNat : Nat) : Int), .int .u8 ((x3.toNat : Nat) : Int)] 5))
        have c2v := (O3.cell (p := ⟨bb, 0, none⟩) n2).trans (c2a (.cells #[.int .u8 ((x0.toNat : Nat) : Int), .int .u8 ((x1.toNat : Nat) : Int), .int .u8 ((x2.toNat : Nat) : Int), .int .u8 ((x3.toNat : Nat) : Int)] 5))
        have fzv := (O3.frozen (p := ⟨lb, 0, none⟩) n1).trans (fza (.cells #[.int .u8 ((x0.toNat : Nat) : Int), .int .u8 ((x1.toNat : Nat) : Int), .int .u8 ((x2.toNat : Nat) : Int), .int .u8 ((x3.toNat : Nat) : Int)] 5))
        have FW := FIN v3 O3 R3
        clear FIN RL RA
        refine hK.out _ _ ?_ (fun hHeld => ?_)
        · exact c2v
        clear hK K
        try simp only [List.getElem_toArray, List.getElem_cons_succ, List.getElem_cons_zero, Act.put, List.setIfInBounds_toArray, List.set_cons_zero, List.set_cons_succ]
        refine wpAnyH_take (i := 17) (v := ?_) rfl (by kernel_rfl) (by kernel_rfl) (by kernel_rfl) (fun _ _ _ h => h) (Or.inl ⟨by rfl, ?_⟩) (by assumption) ?_
        rotate_left
        · intro w hSw; (try dsimp only at hSw); go_simp; try with_reducible rfl
        try simp only [List.getElem_toArray, List.getElem_cons_succ, List.getElem_cons_zero, Act.put, List.setIfInBounds_toArray, List.set_cons_zero, List.set_cons_succ]
        refine wpAnyH_ready (rs := [18]) (by kernel_rfl) (by simp) ?_
        refine AllReadyH.cons rfl (fun K hK => ?_) AllReadyH.nil
        go_simp
        refine hK.out _ _ ?_ (fun hHeld => ?_)
        · exact (((Only.refl lb v3).setCell 0 _).cell (p := ⟨bb, 0, none⟩) n3.symm).trans c2v
        clear hK K
        try simp only [List.getElem_toArray, List.getElem_cons_succ, List.getElem_cons_zero, Act.put, List.setIfInBounds_toArray, List.set_cons_zero, List.set_cons_succ]
        refine wpAnyH_done (by kernel_rfl) ?_ _
        try simp only [List.getElem_toArray, List.getElem_cons_succ, List.getElem_cons_zero, Act.put, List.setIfInBounds_toArray, List.set_cons_zero, List.set_cons_succ]
        clear c1v c2v fzv hHeld
        go_wp2
        go_end0
        exact ⟨rfl, FW.out⟩
      · refine step_copy_rd rfl (.tmp 7) (.tmp 19) 36 36 rfl 5 Tryz.underlying36 info1_u8s rfl rfl RL hfl hdl RA (by omega) ?_
        intro v3 O3 R3
        have c1v := (O3.cell (p := ⟨lb, 0, none⟩) n1).trans (c1a (.cells #[.int .u8 ((x0.toNat : Nat) : Int), .int .u8 ((x1.toNat : Nat) : Int), .int .u8 ((x2.toNat : Nat) : Int), .int .u8 ((x3.toNat : Nat) : Int)] 5))
        have c2v := (O3.cell (p := ⟨bb, 0, none⟩) n2).trans (c2a (.cells #[.int .u8 ((x0.toNat : Nat) : Int), .int .u8 ((x1.toNat : Nat) : Int), .int .u8 ((x2.toNat : Nat) : Int), .int .u8 ((x3.toNat : Nat) : Int)] 5))
        have fzv := (O3.frozen (p := ⟨lb, 0, none⟩) n1).trans (fza (.cells #[.int .u8 ((x0.toNat : Nat) : Int), .int .u8 ((x1.toNat : Nat) : Int), .int .u8 ((x2.toNat : Nat) : Int), .int .u8 ((x3.toNat : Nat) : Int)] 5))
        have FW := FIN v3 O3 R3
        clear FIN RL RA
        refine hK.out _ _ ?_ (fun hHeld => ?_)
        · exact c2v
        clear hK K
        try simp only [List.getElem_toArray, List.getElem_cons_succ, List.getElem_cons_zero, Act.put, List.setIfInBounds_toArray, List.set_cons_zero, List.set_cons_succ]
        refine wpAnyH_ready (rs := [0]) (by kernel_rfl) (by simp) ?_
        refine AllReadyH.cons rfl (fun K hK => ?_) AllReadyH.nil
        go_simp
        refine hK.out _ _ ?_ (fun hHeld => ?_)
        · assumption
        clear hK K
        try simp only [List.getElem_toArray, List.getElem_cons_succ, List.getElem_cons_zero, Act.put, List.setIfInBounds_toArray, List.set_cons_zero, List.set_cons_succ]
        refine wpAnyH_take (i := 17) (v := ?_) rfl (by kernel_rfl) (by kernel_rfl) (by kernel_rfl) (fun _ _ _ h => h) (Or.inl ⟨by rfl, ?_⟩) (by assumption) ?_
        rotate_left
        · intro w hSw; (try dsimp only at hSw); go_simp; try with_reducible rfl
        try simp only [List.getElem_toArray, List.getElem_cons_succ, List.getElem_cons_zero, Act.put, List.setIfInBounds_toArray, List.set_cons_zero, List.set_cons_succ]
        refine wpAnyH_ready (rs := [18]) (by kernel_rfl) (by simp) ?_
        refine AllReadyH.cons rfl (fun K hK => ?_) AllReadyH.nil
        go_simp
        refine hK.out _ _ ?_ (fun hHeld => ?_)
        · exact (((Only.refl lb v3).setCell 0 _).cell (p := ⟨bb, 0, none⟩) n3.symm).trans c2v
        clear hK K
        try simp only [List.getElem_toArray, List.getElem_cons_succ, List.getElem_cons_zero, Act.put, List.setIfInBounds_toArray, List.set_cons_zero, List.set_cons_succ]
        refine wpAnyH_done (by kernel_rfl) ?_ _
        try simp only [List.getElem_toArray, List.getElem_cons_succ, List.getElem_cons_zero, Act.put, List.setIfInBounds_toArray, List.set_cons_zero, List.set_cons_succ]
        clear c1v c2v fzv hHeld
        go_wp2
        go_end0
        exact ⟨rfl, FW.out⟩
  · go_simp
    refine hK.out _ _ ?_ (fun hHeld => ?_)
    · exact c2a _
    clear hK K
    try simp only [List.getElem_toArray, List.getElem_cons_succ, List.getElem_cons_zero, Act.put, List.setIfInBounds_toArray, List.set_cons_zero, List.set_cons_succ]
    refine wpAnyH_ready (rs := [0, 2]) (by kernel_rfl) (by simp) ?_
    refine AllReadyH.cons rfl (fun K hK => ?_) (AllReadyH.cons rfl (fun K hK => ?_) AllReadyH.nil)
    · go_simp
      refine hK.out _ _ ?_ (fun hHeld => ?_)
      · assumption
      clear hK K
      try simp only [List.getElem_toArray, List.getElem_cons_succ, List.getElem_cons_zero, Act.put, List.setIfInBounds_toArray, List.set_cons_zero, List.set_cons_succ]
      refine wpAnyH_ready (rs := [2]) (by kernel_rfl) (by simp) ?_
      refine AllReadyH.cons rfl (fun K hK => ?_) AllReadyH.nil
      go_simp
      refine hK.out _ _ ?_ (fun hHeld => ?_)
      · assumption
      clear hK K
      try simp only [List.getElem_toArray, List.getElem_cons_succ, List.getElem_cons_zero, Act.put, List.setIfInBounds_toArray, List.set_cons_zero, List.set_cons_succ]
      refine wpAnyH_take (i := 3) (v := ?_) rfl (by kernel_rfl) (by kernel_rfl) (by kernel_rfl) (fun _ _ _ h => h) (Or.inl ⟨by rfl, ?_⟩) (by assumption) ?_
      rotate_left
      · intro w hSw; (try dsimp only at hSw); go_simp; try with_reducible rfl
      try simp only [List.getElem_toArray, List.getElem_cons_succ, List.getElem_cons_zero, Act.put, List.setIfInBounds_toArray, List.set_cons_zero, List.set_cons_succ]
      refine wpAnyH_ready (rs := [16]) (by kernel_rfl) (by simp) ?_
      refine AllReadyH.cons rfl (fun K hK => ?_) AllReadyH.nil
      refine step_copy_rd rfl (.tmp 7) (.tmp 19) 36 36 rfl 5 Tryz.underlying36 info1_u8s rfl rfl RL hfl hdl RA (by omega) ?_
      intro v3 O3 R3
      have c1v := (O3.cell (p := ⟨lb, 0, none⟩) n1).trans (c1a (.cells #[.int .u8 ((x0.toNat : Nat) : Int), .int .u8 ((x1.toNat : Nat) : Int), .int .u8 ((x2.toNat : Nat) : Int), .int .u8 ((x3.toNat : Nat) : Int)] 5))
      have c2v := (O3.cell (p := ⟨bb, 0, none⟩) n2).trans (c2a (.cells #[.int .u8 ((x0.toNat : Nat) : Int), .int .u8 ((x1.toNat : Nat) : Int), .int .u8 ((x2.toNat : Nat) : Int), .int .u8 ((x3.toNat : Nat) : Int)] 5))
      have fzv := (O3.frozen (p := ⟨lb, 0, none⟩) n1).trans (fza (.cells #[.int .u8 ((x0.toNat : Nat) : Int), .int .u8 ((x1.toNat : Nat) : Int), .int .u8 ((x2.toNat : Nat) : Int), .int .u8 ((x3.toNat : Nat) : Int)] 5))
      have FW := FIN v3 O3 R3
      clear FIN RL RA
      refine hK.out _ _ ?_ (fun hHeld => ?_)
      · exact c2v
      clear hK K
      try simp only [List.getElem_toArray, List.getElem_cons_succ, List.getElem_cons_zero, Act.put, List.setIfInBounds_toArray, List.set_cons_zero, List.set_cons_succ]
      refine wpAnyH_take (i := 17) (v := ?_) rfl (by kernel_rfl) (by kernel_rfl) (by kernel_rfl) (fun _ _ _ h => h) (Or.inl ⟨by rfl, ?_⟩) (by assumption) ?_
      rotate_left
      · intro w hSw; (try dsimp only at hSw); go_simp; try with_reducible rfl
      try simp only [List.getElem_toArray, List.getElem_cons_succ, List.getElem_cons_zero, Act.put, List.setIfInBounds_toArray, List.set_cons_zero, List.set_cons_succ]
      refine wpAnyH_ready (rs := [18]) (by kernel_rfl) (by simp) ?_
      refine AllReadyH.cons rfl (fun K hK => ?_) AllReadyH.nil
      go_simp
      refine hK.out _ _ ?_ (fun hHeld => ?_)
      · exact (((Only.refl lb v3).setCell 0 _).cell (p := ⟨bb, 0, none⟩) n3.symm).trans c2v
      clear hK K
      try simp only [List.getElem_toArray, List.getElem_cons_succ, List.getElem_cons_zero, Act.put, List.setIfInBounds_toArray, List.set_cons_zero, List.set_cons_succ]
      refine wpAnyH_done (by kernel_rfl) ?_ _
      try simp only [List.getElem_toArray, List.getElem_cons_succ, List.getElem_cons_zero, Act.put, List.setIfInBounds_toArray, List.set_cons_zero, List.set_cons_succ]
      clear c1v c2v fzv hHeld
      go_wp2
      go_end0
      exact ⟨rfl, FW.out⟩
    · go_simp
      refine hK.out _ _ ?_ (fun hHeld => ?_)
      · assumption
      clear hK K
      try simp only [List.getElem_toArray, List.getElem_cons_succ, List.getElem_cons_zero, Act.put, List.setIfInBounds_toArray, List.set_cons_zero, List.set_cons_succ]
      refine wpAnyH_take (i := 3) (v := ?_) rfl (by kernel_rfl) (by kernel_rfl) (by kernel_rfl) (fun _ _ _ h => h) (Or.inl ⟨by rfl, ?_⟩) (by assumption) ?_
      rotate_left
      · intro w hSw; (try dsimp only at hSw); go_simp; try with_reducible rfl
      try simp only [List.getElem_toArray, List.getElem_cons_succ, List.getElem_cons_zero, Act.put, List.setIfInBounds_toArray, List.set_cons_zero, List.set_cons_succ]
      refine wpAnyH_ready (rs := [0, 16]) (by kernel_rfl) (by simp) ?_
      refine AllReadyH.cons rfl (fun K hK => ?_) (AllReadyH.cons rfl (fun K hK => ?_) AllReadyH.nil)
      · go_simp
        refine hK.out _ _ ?_ (fun hHeld => ?_)
        · assumption
        clear hK K
        try simp only [List.getElem_toArray, List.getElem_cons_succ, List.getElem_cons_zero, Act.put, List.setIfInBounds_toArray, List.set_cons_zero, List.set_cons_succ]
        refine wpAnyH_ready (rs := [16]) (by kernel_rfl) (by simp) ?_
        refine AllReadyH.cons rfl (fun K hK => ?_) AllReadyH.nil
        refine step_copy_rd rfl (.tmp 7) (.tmp 19) 36 36 rfl 5 Tryz.underlying36 info1_u8s rfl rfl RL hfl hdl RA (by omega) ?_
        intro v3 O3 R3
        have c1v := (O3.cell (p := ⟨lb, 0, none⟩) n1).trans (c1a (.cells #[.int .u8 ((x0.toNat : Nat) : Int), .int .u8 ((x1.toNat : Nat) : Int), .int .u8 ((x2.toNat : Nat) : Int), .int .u8 ((x3.toNat : Nat) : Int)] 5))
        have c2v := (O3.cell (p := ⟨bb, 0, none⟩) n2).trans (c2a (.cells #[.int .u8 ((x0.toNat : Nat) : Int), .int .u8 ((x1.toNat : Nat) : Int), .int .u8 ((x2.toNat : Nat) : Int), .int .u8 ((x3.toNat : Nat) : Int)] 5))
        have fzv := (O3.frozen (p := ⟨lb, 0, none⟩) n1).trans (fza (.cells #[.int .u8 ((x0.toNat : Nat) : Int), .int .u8 ((x1.toNat : Nat) : Int), .int .u8 ((x2.toNat : Nat) : Int), .int .u8 ((x3.toNat : Nat) : Int)] 5))
        have FW := FIN v3 O3 R3
        clear FIN RL RA
        refine hK.out _ _ ?_ (fun hHeld => ?_)
        · exact c2v
        clear hK K
        try simp only [List.getElem_toArray, List.getElem_cons_succ, List.getElem_cons_zero, Act.put, List.setIfInBounds_toArray, List.set_cons_zero, List.set_cons_succ]
        refine wpAnyH_take (i := 17) (v := ?_) rfl (by kernel_rfl) (by kernel_rfl) (by kernel_rfl) (fun _ _ _ h => h) (Or.inl ⟨by rfl, ?_⟩) (by assumption) ?_
        rotate_left
        · intro w hSw; (try dsimp only at hSw); go_simp; try with_reducible rfl
        try simp only [List.getElem_toArray, List.getElem_cons_succ, List.getElem_cons_zero, Act.put, List.setIfInBounds_toArray, List.set_cons_zero, List.set_cons_succ]
        refine wpAnyH_ready (rs := [18]) (by kernel_rfl) (by simp) ?_
        refine AllReadyH.cons rfl (fun K hK => ?_) AllReadyH.nil
        go_simp
        refine hK.out _ _ ?_ (fun hHeld => ?_)
        · exact (((Only.refl lb v3).setCell 0 _).cell (p := ⟨bb, 0, none⟩) n3.symm).trans c2v
        clear hK K
        try simp only [List.getElem_toArray, List.getElem_cons_succ, List.getElem_cons_zero, Act.put, List.setIfInBounds_toArray, List.set_cons_zero, List.set_cons_succ]
        refine wpAnyH_done (by kernel_rfl) ?_ _
        try simp only [List.getElem_toArray, List.getElem_cons_succ, List.getElem_cons_zero, Act.put, List.setIfInBounds_toArray, List.set_cons_zero, List.set_cons_succ]
        clear c1v c2v fzv hHeld
        go_wp2
        go_end0
        exact ⟨rfl, FW.out⟩
      · refine step_copy_rd rfl (.tmp 7) (.tmp 19) 36 36 rfl 5 Tryz.underlying36 info1_u8s rfl rfl RL hfl hdl RA (by omega) ?_
        intro v3 O3 R3
        have c1v := (O3.cell (p := ⟨lb, 0, none⟩) n1).trans (c1a (.cells #[.int .u8 ((x0.toNat : Nat) : Int), .int .u8 ((x1.toNat : Nat) : Int), .int .u8 ((x2.toNat : Nat) : Int), .int .u8 ((x3.toNat : Nat) : Int)] 5))
        have c2v := (O3.cell (p := ⟨bb, 0, none⟩) n2).trans (c2a (.cells #[.int .u8 ((x0.toNat : Nat) : Int), .int .u8 ((x1.toNat : Nat) : Int), .int .u8 ((x2.toNat : Nat) : Int), .int .u8 ((x3.toNat : Nat) : Int)] 5))
        have fzv := (O3.frozen (p := ⟨lb, 0, none⟩) n1).trans (fza (.cells #[.int .u8 ((x0.toNat : Nat) : Int), .int .u8 ((x1.toNat : Nat) : Int), .int .u8 ((x2.toNat : Nat) : Int), .int .u8 ((x3.toNat : Nat) : Int)] 5))
        have FW := FIN v3 O3 R3
        clear FIN RL RA
        refine hK.out _ _ ?_ (fun hHeld => ?_)
        · exact c2v
        clear hK K
        try simp only [List.getElem_toArray, List.getElem_cons_succ, List.getElem_cons_zero, Act.put, List.setIfInBounds_toArray, List.set_cons_zero, List.set_cons_succ]
        refine wpAnyH_ready (rs := [0]) (by kernel_rfl) (by simp) ?_
        refine AllReadyH.cons rfl (fun K hK => ?_) AllReadyH.nil
        go_simp
        refine hK.out _ _ ?_ (fun hHeld => ?_)
        · assumption
        clear hK K
        try simp only [List.getElem_toArray, List.getElem_cons_succ, List.getElem_cons_zero, Act.put, List.setIfInBounds_toArray, List.set_cons_zero, List.set_cons_succ]
        refine wpAnyH_take (i := 17) (v := ?_) rfl (by kernel_rfl) (by kernel_rfl) (by kernel_rfl) (fun _ _ _ h => h) (Or.inl ⟨by rfl, ?_⟩) (by assumption) ?_
        rotate_left
        · intro w hSw; (try dsimp only at hSw); go_simp; try with_reducible rfl
        try simp only [List.getElem_toArray, List.getElem_cons_succ, List.getElem_cons_zero, Act.put, List.setIfInBounds_toArray, List.set_cons_zero, List.set_cons_succ]
        refine wpAnyH_ready (rs := [18]) (by kernel_rfl) (by simp) ?_
        refine AllReadyH.cons rfl (fun K hK => ?_) AllReadyH.nil
        go_simp
        refine hK.out _ _ ?_ (fun hHeld => ?_)
        · exact (((Only.refl lb v3).setCell 0 _).cell (p := ⟨bb, 0, none⟩) n3.symm).trans c2v
        clear hK K
        try simp only [List.getElem_toArray, List.getElem_cons_succ, List.getElem_cons_zero, Act.put, List.setIfInBounds_toArray, List.set_cons_zero, List.set_cons_succ]
        refine wpAnyH_done (by kernel_rfl) ?_ _
        try simp only [List.getElem_toArray, List.getElem_cons_succ, List.getElem_cons_zero, Act.put, List.setIfInBounds_toArray, List.set_cons_zero, List.set_cons_succ]
        clear c1v c2v fzv hHeld
        go_wp2
        go_end0
        exact ⟨rfl, FW.out⟩
  -- REGION END
end Go.Proofs.YtddnfhfangfgeaaGreat.Gf

