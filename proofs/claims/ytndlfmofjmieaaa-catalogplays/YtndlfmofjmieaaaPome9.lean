/- TEXTS JOINED: CtAt, CtCA, CtZs. -/
import Derived.Test.YtndlfmofjmieaaaPome8
namespace Go.Proofs.Ytndlfmofjmieaaa.Gf
set_option linter.unusedVariables false
set_option linter.unusedSimpArgs false
open Go.RowKit
open Go.Maps (Keyed)
open Go.ChangeMaps Go.MapKept
theorem hidK {p : Prop} (h : p) : Hid p := h
theorem keyed_str : Keyed Try.prog 9 := Maps.string_keyed (by kernel_rfl)
theorem under_omap : Try.prog.underlying 70 = some (.map 9 52) := by kernel_rfl
theorem zero_obj (w : World) : (zeroValue 52).run Try.prog w = .ok (.agg #[.string ⟨#[]⟩, .int .i64 0, .int .i64 0, .slice none 0 0]) w := by kernel_rfl
theorem key_str {d : List UInt8} (hd : d.length ≤ maxLen) : keyOf Try.prog 9 (strV d) = some (.string d) := keyS (by kernel_rfl) hd
def nilO : Value := .agg #[.string ⟨#[]⟩, .int .i64 0, .int .i64 0, .slice none 0 0]
/-- what the map holds -/
def mpF (LV : List ObV) (k : List UInt8) : Option Value := (finV LV k).map aggO
theorem mpF_some {LV : List ObV} {k : List UInt8} : (mpF LV k).isSome = (finV LV k).isSome := by unfold mpF; cases finV LV k <;> rfl
theorem mpF_keys {LV : List ObV} : ∀ d, d ∈ keysC LV ↔ (mpF LV d).isSome = true := fun d => by rw [keysC_mem, mpF_some]
def IsMapB (w : World) (b : Nat) : Prop := ∃ es clock, w.heap[b]? = some (.map es clock)
theorem IsMapB.cell {w : World} {b : Nat} (h : IsMapB w b) (p : Addr) (e : p.block = b) : w.cell? p = none := by
  obtain ⟨es, clock, hb⟩ := h
  subst e
  unfold World.cell?
  rw [hb]
theorem MapS.isMap {P : Program} {K b : Nat} {w : World} {f : List UInt8 → Option Value} (h : MapS P K w b f) : IsMapB w b := by
  obtain ⟨D, ⟨es, clock, hb, _⟩, _⟩ := h
  exact ⟨es, clock, hb⟩
theorem mt_turn {w w' : World} {b : Nat} (h : w.mapTurned w' b) : TurnG (fun k => k = b) w w' := by
  obtain ⟨es, clock, es', clock', hb, rfl⟩ := h
  exact ⟨rfl, rfl, rfl, by simp [setBlock], fun k _ hk => heap_setBlock_other hb _ hk⟩
theorem RdI.offG {w w' : World} {G : Nat → Prop} {v : Value} {zs : List Int} (h : RdI w v zs) (ha : ApartG G v) (t : TurnG G w w') : RdI w' v zs := by
  rcases h with h | ⟨b, off, cap, h1, h2, h3, h4, h5⟩
  · exact Or.inl h
  · have hb : ¬ G b := by
      rcases ha _ _ _ h2 with e | e
      · exact absurd (List.length_eq_zero_iff.1 e) h1
      · exact e
    exact Or.inr ⟨b, off, cap, h1, h2, h3, Nat.lt_of_lt_of_le h4 t.size, fun i hi => (t.cell (p := ⟨b, off + i, none⟩) h4 hb).trans (h5 i hi)⟩
theorem RdI.lays {w : World} {v : Value} {zs : List Int} (h : RdI w v zs) : ∀ x n c, v = .slice (some x) n c → n = 0 ∨ x.block < w.heap.size := fun x n c e => by
  rcases h with ⟨a, c', _, e2⟩ | ⟨b, off, cap, h1, h2, h3, h4, h5⟩
  · rw [e2] at e; simp at e; exact Or.inl e.2.1.symm
  · rw [h2] at e; simp at e; obtain ⟨rfl, rfl, rfl⟩ := e; exact Or.inr h4
theorem RdI.notMap {w : World} {b : Nat} {v : Value} {zs : List Int} (h : RdI w v zs) (hm : IsMapB w b) : ApartG (fun k => k = b) v := fun x n c e => by
  rcases h with ⟨a, c', _, e2⟩ | ⟨b', off, cap, h1, h2, h3, h4, h5⟩
  · rw [e2] at e; simp at e; exact Or.inl e.2.1.symm
  · rw [h2] at e; simp at e; obtain ⟨rfl, rfl, rfl⟩ := e
    refine Or.inr fun q => ?_
    have := h5 0 (List.length_pos_iff.2 h1)
    rw [hm.cell ⟨b', off + 0, none⟩ q] at this
    cases this
theorem ObOk.offG {w w' : World} {G : Nat → Prop} {c : ObV} (h : ObOk w c) (ha : ApartG G c.vs) (t : TurnG G w w') : ObOk w' c := ⟨h.wl, h.we, h.ky, h.rs.offG ha t, h.wi⟩
theorem ObOk.bel {w w' : World} {c : ObV} (h : ObOk w c) (b : Below w.heap.size w w') : ObOk w' c := ⟨h.wl, h.we, h.ky, h.rs.below b, h.wi⟩
theorem TurnG.more {G H : Nat → Prop} {w w' : World} (h : TurnG G w w') (k : ∀ x, G x → H x) : TurnG H w w' := ⟨h.os, h.tape, h.output, h.size, fun i hi hg => h.block i hi fun q => hg (k _ q)⟩
/-- a variable of four cells -/
theorem box4 (w : World) (a b c d : Value) (e : Nat) : ∀ V, Below (w.alloc (.cells #[a, b, c, d] e)).heap.size (w.alloc (.cells #[a, b, c, d] e)) V → Below w.heap.size w V ∧ V.cell? ⟨w.heap.size, 0, none⟩ = some a ∧ V.cell? ⟨w.heap.size, 1, none⟩ = some b ∧ V.cell? ⟨w.heap.size, 2, none⟩ = some c ∧ V.cell? ⟨w.heap.size, 3, none⟩ = some d ∧ ∀ j, V.frozen? ⟨w.heap.size, j, none⟩ = false := by
  intro V hV
  have z : ∀ j, (w.alloc (.cells #[a, b, c, d] e)).cell? ⟨w.heap.size, j, none⟩ = #[a, b, c, d][j]? := fun j => World.cell?_alloc_new _ _ _ _
  have lt : w.heap.size < (w.alloc (.cells #[a, b, c, d] e)).heap.size := by simp
  have k : ∀ j, V.cell? ⟨w.heap.size, j, none⟩ = (w.alloc (.cells #[a, b, c, d] e)).cell? ⟨w.heap.size, j, none⟩ := fun j => hV.cell (p := ⟨w.heap.size, j, none⟩) lt
  exact ⟨(belL _ _).stepL hV (belL _ _).size, (k 0).trans (z 0), (k 1).trans (z 1), (k 2).trans (z 2), (k 3).trans (z 3), fun j => (hV.frozen (p := ⟨w.heap.size, j, none⟩) lt).trans (World.frozen?_alloc_new _ _ _ _)⟩
/-- the landed catalog -/
structure CatI (w : World) (cb mb : Nat) (g : GeoS) (LV : List ObV) (P : Nat → Prop) : Prop where
  ge : GeoAt w cb g
  c6 : w.cell? ⟨cb, 6, none⟩ = some (.map (some mb))
  mp : MapS Try.prog 9 w mb (mpF LV)
  ok : ∀ c ∈ LV, ObOk w c
  inv : InvC g (oL LV)
  gok : okG g
  gw : g.Wf
  lt : cb < w.heap.size
  off : ∀ c ∈ LV, ApartG P c.vs
  lp : ∀ q, P q → q < w.heap.size
  pc : ¬ P cb
  pm : ¬ P mb
theorem CatI.turn {w w' : World} {cb mb : Nat} {g : GeoS} {LV : List ObV} {P G : Nat → Prop} (h : CatI w cb mb g LV P) (t : TurnG G w w') (gc : ¬ G cb) (gm : ¬ G mb) (go : ∀ c ∈ LV, ApartG G c.vs) : CatI w' cb mb g LV P := by
  obtain ⟨⟨x0, x1, x2, x3, x4, x5⟩, c6, mp, ok, inv, gok, gw, lt, off, lp, pc, pm⟩ := h
  have k : ∀ j, w'.cell? ⟨cb, j, none⟩ = w.cell? ⟨cb, j, none⟩ := fun j => t.cell (p := ⟨cb, j, none⟩) lt gc
  exact ⟨⟨(k _).trans x0, (k _).trans x1, (k _).trans x2, (k _).trans x3, (k _).trans x4, (k _).trans x5⟩, (k _).trans c6, mp.of_block (t.block mb mp.lt gm), fun c hc => (ok c hc).offG (go c hc) t, inv, gok, gw, Nat.lt_of_lt_of_le lt t.size, off, fun q hq => Nat.lt_of_lt_of_le (lp q hq) t.size, pc, pm⟩
theorem CatI.below {w w' : World} {cb mb : Nat} {g : GeoS} {LV : List ObV} {P : Nat → Prop} (h : CatI w cb mb g LV P) (b : Below w.heap.size w w') : CatI w' cb mb g LV P :=
  h.turn (Below.turnG b fun _ => False) (fun q => q) (fun q => q) fun c _ x n d e => Or.inr fun q => q
/-- what it is to keep off turns -/
theorem CatI.keep {w w' : World} {cb mb : Nat} {g : GeoS} {LV : List ObV} {P : Nat → Prop} (h : CatI w cb mb g LV P) (t : TurnG P w w') : CatI w' cb mb g LV P := h.turn t h.pc h.pm h.off
/-- new blocks to keep off -/
theorem CatI.avoid {w w' : World} {cb mb : Nat} {g : GeoS} {LV : List ObV} {P Q : Nat → Prop} (h : CatI w cb mb g LV P) (b : Below w.heap.size w w') (hQ : ∀ q, Q q → w.heap.size ≤ q) (hl : ∀ q, Q q → q < w'.heap.size) : CatI w' cb mb g LV Q := by
  obtain ⟨ge, c6, mp, ok, inv, gok, gw, lt, off, lp, pc, pm⟩ := h.below b
  refine ⟨ge, c6, mp, ok, inv, gok, gw, lt, fun c hc x n d e => ?_, hl, fun q => ?_, fun q => ?_⟩
  · rcases (h.ok c hc).rs.lays x n d e with k | k
    · exact Or.inl k
    · exact Or.inr fun q => by have := hQ _ q; omega
  · have := hQ _ q; have := h.lt; omega
  · have := hQ _ q; have := h.mp.lt; omega
theorem CatI.isMap {w : World} {cb mb : Nat} {g : GeoS} {LV : List ObV} {P : Nat → Prop} (h : CatI w cb mb g LV P) : IsMapB w mb := h.mp.isMap
theorem CatI.ne {w : World} {cb mb : Nat} {g : GeoS} {LV : List ObV} {P : Nat → Prop} (h : CatI w cb mb g LV P) : cb ≠ mb := fun e => by
  have := h.c6
  rw [h.isMap.cell ⟨cb, 6, none⟩ e] at this
  cases this
theorem CatI.few {w : World} {cb mb : Nat} {g : GeoS} {LV : List ObV} {P : Nat → Prop} (h : CatI w cb mb g LV P) : (LV.length : Int) ≤ g.o ∧ LV.length ≤ 64 := by
  have h1 := h.inv.few
  rw [oL_length] at h1
  obtain ⟨_, _, _, _, _, _, _, _, _, _, h2⟩ := h.gok
  exact ⟨h1, by omega⟩
theorem CatI.sts {w : World} {cb mb : Nat} {g : GeoS} {LV : List ObV} {P : Nat → Prop} (h : CatI w cb mb g LV P) : ∀ c ∈ LV, c.o.st.length ≤ 256 ∧ c.o.key.length ≤ 64 ∧ 1 ≤ c.o.key.length := fun c hc => by
  have q := (h.inv.ok c.o (List.mem_map_of_mem hc)).1.1
  exact ⟨q.2.2.2.2.2.1, q.2.2.1, q.2.1⟩
end Go.Proofs.Ytndlfmofjmieaaa.Gf

namespace Go.Proofs.Ytndlfmofjmieaaa.Gf
set_option linter.unusedVariables false
set_option linter.unusedSimpArgs false
open Go.RowKit
open Go.Maps (Keyed)
set_option maxRecDepth 100000 in
theorem cmay19_any {n : Int} {w : World} {x : Bool} (hx : decide (OkN n) = x) : Calls Try.prog 48 #[.int .i64 n] w fun e w' => e = .returned (.bool x) ∧ w' = w := by
  by_cases h0 : 0 ≤ n
  · by_cases h1 : n ≤ 2147483647
    · obtain rfl : x = true := hx.symm.trans (decide_eq_true ⟨h0, h1⟩)
      clear hx
      have h0' : n ≥ 0 := h0
      go_enter Try.func48, Try.ntmps48
      go_wp2
      go_ret
      exact ⟨rfl, rfl⟩
    · obtain rfl : x = false := hx.symm.trans (decide_eq_false fun q => h1 q.2)
      clear hx
      have h0' : n ≥ 0 := h0
      go_enter Try.func48, Try.ntmps48
      go_wp2
      go_ret
      exact ⟨rfl, rfl⟩
  · obtain rfl : x = false := hx.symm.trans (decide_eq_false fun q => h0 q.1)
    clear hx
    have h0' : ¬ n ≥ 0 := h0
    go_enter Try.func48, Try.ntmps48
    go_wp2
    go_ret
    exact ⟨rfl, rfl⟩
/-- what 'm[k]' and 'm[k], ok' answer -/
theorem CatI.looks {w : World} {cb mb : Nat} {g : GeoS} {LV : List ObV} {P : Nat → Prop} (h : CatI w cb mb g LV P) {k : List UInt8} (hk : k.length ≤ maxLen) :
    (Instr.lookup 70 (.map (some mb)) (.string ⟨k.toArray⟩) true).run Try.prog w = .ok (.tuple #[(mpF LV k).getD nilO, .bool (finV LV k).isSome]) w ∧ (Instr.lookup 70 (.map (some mb)) (.string ⟨k.toArray⟩) false).run Try.prog w = .ok ((mpF LV k).getD nilO) w := by
  have h1 := h.mp.look_ok keyed_str under_omap (zero_obj w) (key_str hk)
  have h2 := h.mp.look keyed_str under_omap (zero_obj w) (key_str hk)
  rw [mpF_some] at h1
  exact ⟨h1, h2⟩
theorem mpF_agg (LV : List ObV) (k : List UInt8) : ∃ a b c d, (mpF LV k).getD nilO = .agg #[.string a, .int .i64 b, .int .i64 c, d] ∧ (d = .slice none 0 0 ∨ ∃ o ∈ LV, d = o.vs) := by
  unfold mpF
  cases e : finV LV k with
  | none => exact ⟨_, _, _, _, rfl, Or.inl rfl⟩
  | some o => exact ⟨_, _, _, _, rfl, Or.inr ⟨o, (finV_mem e).1, rfl⟩⟩
set_option maxRecDepth 100000 in
set_option maxHeartbeats 1000000 in
theorem chas19_any {w : World} {cb mb : Nat} {g : GeoS} {LV : List ObV} {P : Nat → Prop} (h : CatI w cb mb g LV P) {k : List UInt8} (hk : k.length ≤ maxLen) {x : Bool} (hx : (finV LV k).isSome = x) :
    Calls Try.prog 31 #[.pointer (some ⟨cb, 0, none⟩), .string ⟨k.toArray⟩] w fun e w' => e = .returned (.bool x) ∧ Below w.heap.size w w' := by
  have c6 := h.c6
  have L1 := (h.looks hk).1
  obtain ⟨a, b, c, d, ea, hd⟩ := mpF_agg LV k
  have od : ∃ p n m, d = .slice p n m := by
    rcases hd with rfl | ⟨o, ho, rfl⟩
    · exact ⟨_, _, _, rfl⟩
    · obtain ⟨p, q, e⟩ := (h.ok o ho).rs.form
      exact ⟨p, _, q, e⟩
  obtain ⟨p, n, m, rfl⟩ := od
  rw [ea, hx] at L1
  clear ea hd hx h
  obtain ⟨W, hW⟩ : ∃ W, W = w.alloc (.cells #[.string a, .int .i64 b, .int .i64 c, .slice p n m] 52) := ⟨_, rfl⟩
  have B : Hid (Below w.heap.size w W) := by show Below _ _ _; rw [hW]; exact belL _ _
  go_enter Try.func31, Try.ntmps31
  go_wp2_with fail
  rw [← hW]
  clear hW
  go_ret
  exact ⟨rfl, B.out⟩
theorem CatI.lens {w : World} {cb mb : Nat} {g : GeoS} {LV : List ObV} {P : Nat → Prop} (h : CatI w cb mb g LV P) (ty : Nat) :
    (Builtin.len_ #[70] ty #[.map (some mb)]).run Try.prog w = .ok (.int .i64 (LV.length : Nat)) w := by
  have := h.mp.len keyed_str under_omap ty (keysC_nodup h.inv.rise) mpF_keys
  rw [keysC_length] at this
  exact this
set_option maxRecDepth 100000 in
set_option maxHeartbeats 1000000 in
theorem croom19_any {w : World} {cb mb : Nat} {g : GeoS} {LV : List ObV} {P : Nat → Prop} (h : CatI w cb mb g LV P) {k : List UInt8} (hk : k.length ≤ maxLen) {x : Bool} (hx : decide (finV LV k ≠ none ∨ (LV.length : Int) < g.o) = x) :
    Calls Try.prog 49 #[.pointer (some ⟨cb, 0, none⟩), .string ⟨k.toArray⟩] w fun e w' => e = .returned (.bool x) ∧ Below w.heap.size w w' := by
  have H := hidK h
  have HX := hidK hx
  clear hx h
  obtain ⟨hs, hhs⟩ : ∃ b, Hid ((finV LV k).isSome = b) := ⟨_, rfl⟩
  have KH : ∀ V, Below w.heap.size w V → Calls Try.prog 31 #[.pointer (some ⟨cb, 0, none⟩), .string ⟨k.toArray⟩] V fun e w' => e = .returned (.bool hs) ∧ Below V.heap.size V w' := fun V bV => chas19_any (H.out.below bV) hk hhs.out
  have SF : Hid (∀ V, Below w.heap.size w V → V.cell? ⟨cb, 6, none⟩ = some (.map (some mb)) ∧ V.cell? ⟨cb, 5, none⟩ = some (.int .i64 g.o)) := fun V bV => ⟨(H.out.below bV).c6, (H.out.below bV).ge.2.2.2.2.2⟩
  have LN : ∀ V, Below w.heap.size w V → ∀ ty, (Builtin.len_ #[70] ty #[.map (some mb)]).run Try.prog V = .ok (.int .i64 (LV.length : Nat)) V := fun V bV ty => (H.out.below bV).lens ty
  obtain ⟨go, hgo⟩ : ∃ z, z = g.o := ⟨_, rfl⟩
  rw [← hgo] at SF HX
  clear hgo
  go_enter Try.func49, Try.ntmps49
  go_wp2_with fail
  refine wp_region_held_drew (S := fun V => V.cell? ⟨cb, 6, none⟩ = some (.map (some mb)) ∧ V.cell? ⟨cb, 5, none⟩ = some (.int .i64 go)) (by kernel_rfl) (SF.out _ (Below.refl _ _).drew) (fun hHeld => ?_)
  refine tkH 0 ?_
  refine tkH 1 ?_
  clear hHeld
  have K1 := KH _ (Below.refl w.heap.size w).drew
  refine rnH 2 (fun K' hK => ?_)
  go_simp
  go_at_call 31
  refine K1.mono ?_
  clear K1 KH
  rintro _ w2 ⟨rfl, b2⟩
  dsimp only
  have B2 := hidK ((Below.refl w.heap.size w).drew.step16 b2 (Nat.le_refl _))
  refine koH hK (SF.out _ B2.out) fun hHeld => ?_
  clear hK K' b2
  cases hs with
  | true =>
    obtain rfl : x = true := HX.out.symm.trans (decide_eq_true (Or.inl fun e => by have := hhs.out; rw [e] at this; cases this))
    refine tkH 3 ?_
    refine skH 4 ?_
    refine skH 5 ?_
    refine skH 6 ?_
    refine skH 7 ?_
    refine skH 8 ?_
    refine skH 9 ?_
    refine skH 10 ?_
    refine skH 11 ?_
    refine skH 12 ?_
    refine skH 13 ?_
    refine skH 14 ?_
    refine tkH 15 ?_
    refine tkH 16 ?_
    refine wpAnyH_done (by kernel_rfl) ?_ _
    clear hHeld SF LN HX H hhs
    go_wp2
    go_ret
    exact ⟨rfl, B2.out⟩
  | false =>
    have N : finV LV k = none := by
      have := hhs.out
      cases e : finV LV k with
      | none => rfl
      | some c => rw [e] at this; cases this
    refine tkH 3 ?_
    refine tkH 4 ?_
    refine tkH 5 ?_
    refine tkH 6 ?_
    refine tkH 7 ?_
    refine tkH 9 ?_
    refine tkH 10 ?_
    refine tkH 11 ?_
    refine tkH 12 ?_
    refine tkH 13 ?_
    have LW := LN w2 B2.out
    refine rnH 8 (fun K' hK => ?_)
    go_simp
    refine koH hK (SF.out _ B2.out) fun hHeld => ?_
    clear hK K'
    refine tkH 14 ?_
    refine tkH 15 ?_
    refine tkH 16 ?_
    refine wpAnyH_done (by kernel_rfl) ?_ _
    have e : x = decide ((LV.length : Int) < go) := by
      rw [← HX.out, N]
      simp
    subst e
    clear hHeld SF LN HX H hhs LW N
    go_wp2
    go_ret
    exact ⟨rfl, B2.out⟩
end Go.Proofs.Ytndlfmofjmieaaa.Gf

namespace Go.Proofs.Ytndlfmofjmieaaa.Gf
set_option linter.unusedVariables false
set_option linter.unusedSimpArgs false
open Go.RowKit
/-- in memory laid since -/
def NewS (B : Nat) (v : Value) : Prop := ∀ x n c, v = .slice (some x) n c → B ≤ x.block
theorem NewS.mono {B B' : Nat} {v : Value} (h : NewS B v) (k : B' ≤ B) : NewS B' v := fun x n c e => Nat.le_trans k (h x n c e)
theorem OwnZ.new {w : World} {base e : Nat} {v : Value} {zs : List Int} (h : OwnZ w base e v zs) : NewS base v := fun x n c ev => by
  obtain ⟨_, ⟨hv, hn⟩ | ⟨g, cap, cur, hv, hgb, _⟩⟩ := h
  · rw [hv] at ev; simp at ev
  · rw [hv] at ev
    simp at ev
    obtain ⟨rfl, _, _⟩ := ev
    exact hgb
theorem zs_one (M : List Int) : ∀ y ∈ M.map vz, y.oneCell' = true := by
  intro y hy
  obtain ⟨z, _, rfl⟩ := List.mem_map.1 hy
  rfl
theorem run_append_zs {w : World} {base : Nat} {v va : Value} {L M : List Int} (ty : TypeId) (h : OwnZ w base 3 v L) (hM : RdI w va M) (hc : ∀ n c, va = .slice none n c → c = 0) (hl : L.length + M.length ≤ 100000) (hbase : base ≤ w.heap.size) :
    ∃ v' w', (Builtin.append_ #[37, 37] ty #[v, va]).run Try.prog w = .ok v' w' ∧ OwnZ w' base 3 v' (L ++ M) ∧ Gro w v w' v' := by
  obtain ⟨i, hi, hz, hs, hy⟩ := info_int16'
  rcases hM with ⟨ao, cap, rfl, rfl⟩ | ⟨b, off, cap, h1, rfl, h3, h4, h5⟩
  · rcases ao with _ | ad
    · have := hc _ _ rfl
      subst this
      exact ⟨v, w, run_append_owned_none (P := Try.prog) (w := w) base 37 ty 3 i 1 Try.underlying37 hi v L.length (L.map vz) h, by rw [List.append_nil]; exact h, Gro.refl _ _⟩
    · obtain ⟨v', w', hrun, h2, h3, _, h5⟩ := run_append_own_at (P := Try.prog) w base 37 ty 3 i (.int .i64 0) 1 8 Try.underlying37 hi hz hs hy rfl (by decide) v L.length (L.map vz) h ad 0 cap [] rfl (by intro j u hj; simp at hj) (by intro u hu; simp at hu) (by unfold maxLen; omega) (by omega) hbase
      exact ⟨v', w', hrun, by unfold OwnZ; simpa using h2, Gro.of h3 h5⟩
  · obtain ⟨v', w', hrun, h2, h3', _, h5'⟩ := run_append_own_at (P := Try.prog) w base 37 ty 3 i (.int .i64 0) 1 8 Try.underlying37 hi hz hs hy rfl (by decide) v L.length (L.map vz) h ⟨b, off, none⟩ M.length cap (M.map vz) (by simp)
      (by
        intro j y hj
        rw [add_at]
        rw [List.getElem?_map] at hj
        have hlt : j < M.length := by
          by_cases q : j < M.length
          · exact q
          · rw [List.getElem?_eq_none (by omega)] at hj; cases hj
        rw [List.getElem?_eq_getElem hlt] at hj
        simp at hj
        subst hj
        rw [h5 j hlt]
        simp [vz, List.getD, hlt]) (zs_one M) (by unfold maxLen; omega) (by omega) hbase
    refine ⟨v', w', hrun, ?_, Gro.of h3' h5'⟩
    unfold OwnZ
    rw [List.length_append, List.map_append]; exact h2
theorem wpList_append_zs {w : World} {base : Nat} {v va : Value} {L M : List Int} {ops : Array Oper} {rest : List Oper} {o : Oper} {a : Act} {Q : Exit → Act → World → Prop} (hgd : o.guard = none) (s x : Operand)
    (ho : o.op = .call { callee := .builtin .append, args := #[s, x], argTypes := #[37, 37] }) (hs : a.eval s = v) (hx : a.eval x = va)
    (h : OwnZ w base 3 v L) (hM : RdI w va M) (hc : ∀ n c, va = .slice none n c → c = 0) (hl : L.length + M.length ≤ 100000) (hbase : base ≤ w.heap.size)
    (k : ∀ v' w', OwnZ w' base 3 v' (L ++ M) → Gro w v w' v' → wpList Try.prog ops Q rest (a.put o.dst v') w') : wpList Try.prog ops Q (o :: rest) a w := by
  refine wpList_plain hgd fun K hK => ?_
  obtain ⟨v', w', hrun, h2, h3⟩ := run_append_zs o.type h hM hc hl hbase
  unfold Oper.wp execOp
  simp only [ho, resolve, invoke, builtin, Sem.run_bind, Sem.run_pure, Result.andThen_ok, List.map_toArray, List.map_cons, List.map_nil, hs, hx, hrun]
  exact hK _ _ (k v' w' h2 h3)
theorem step_append_zs {w : World} {ops : Array Oper} {o : Oper} {a : Act} {K : Act → World → Prop} {Q : Exit → Act → World → Prop} {E : Prop} (hgd : o.guard = none) (s x : Operand)
    (ho : o.op = .call { callee := .builtin .append, args := #[s, x], argTypes := #[37, 37] })
    (base : Nat) (v : Value) (L : List Int) (hs : a.eval s = v) (h : OwnZ w base 3 v L) (va : Value) (M : List Int) (hx : a.eval x = va) (hM : RdI w va M) (hc : ∀ n c, va = .slice none n c → c = 0) (hl : L.length + M.length ≤ 100000) (hbase : base ≤ w.heap.size)
    (k : ∀ v' w', OwnZ w' base 3 v' (L ++ M) → Gro w v w' v' → K (a.put o.dst v') w') :
    if Region.wanted o (yielded ops a.tmps) = true then Oper.wp Try.prog o a w K Q else E := by
  have hw : Region.wanted o (yielded ops a.tmps) = true := by simp [Region.wanted, hgd]
  rw [if_pos hw]
  obtain ⟨v', w', hrun, h2, h3⟩ := run_append_zs o.type h hM hc hl hbase
  unfold Oper.wp execOp
  simp only [ho, resolve, invoke, builtin, Sem.run_bind, Sem.run_pure, Result.andThen_ok, List.map_toArray, List.map_cons, List.map_nil, hs, hx, hrun]
  exact k v' w' h2 h3
/-- a literal of none -/
theorem made_zs (w : World) {base : Nat} (h : base ≤ w.heap.size) : OwnZ (w.alloc (.cells #[] 3)) base 3 (.slice (some ⟨w.heap.size, 0, none⟩) 0 0) [] :=
  World.ownsRow_made w #[] 0 h (Nat.zero_le _) rfl
theorem Gro.bel19 {w w' : World} {v v' : Value} {B : Nat} {w0 : World} (g : Gro w v w' v') (b : Below B w0 w) (hB : B ≤ w.heap.size) (q : ∀ k, v.ownBlock = some k → B ≤ k) : Below B w0 w' := b.grown g.gr hB q
end Go.Proofs.Ytndlfmofjmieaaa.Gf
