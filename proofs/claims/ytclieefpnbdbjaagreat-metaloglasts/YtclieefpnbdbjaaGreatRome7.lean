/- TEXTS JOINED: VaApp, DkCall, DkMath, DkTurn. -/
import Derived.Maps.AppendAt
import Derived.Deep.Slices
import Derived.Test.YtclieefpnbdbjaaGreatRome2
namespace Go.Proofs.YtclieefpnbdbjaaGreat.Gf
set_option linter.unusedVariables false
set_option linter.unusedSimpArgs false
open Go.RowKit
/-- 'append(s, x)': one value of one cell, laid as a list of one -/
theorem wpList_append_v {P : Program} (w : World) {ops : Array Oper} {rest : List Oper} {o : Oper} {a : Act} {Q : Exit → Act → World → Prop} (hgd : o.guard = none) (s x : Operand) (t : TypeId)
    (ho : o.op = .call { callee := .builtin .append, args := #[s, x], argTypes := #[t, t] })
    (base : Nat) (e : TypeId) (i : TypeInfo) (z : Value) (by_ : Nat) (ht : P.underlying t = some (.slice e)) (hi : P.info? e = some i) (hz : i.zero = some z) (hsize : i.size = 1) (hby : i.bytes = by_) (hzc : z.cells.size = 1) (hb24 : by_ ≤ 24)
    (v : Value) (n : Nat) (xs : List Value) (hs : a.eval s = v) (hown : w.ownsRow base e 1 v n xs) (b c : Nat) (u : Value) (hx : a.eval x = .slice (some ⟨b, 0, none⟩) 1 c) (hr : w.cell? ⟨b, 0, none⟩ = some u) (hu : u.oneCell' = true) (hl : n ≤ 100000) (hbase : base ≤ w.heap.size)
    (h : ∀ v' w', w'.ownsRow base e 1 v' (n + 1) (xs ++ [u]) → w.grownBy w' v.ownBlock → (v'.ownBlock = v.ownBlock ∨ v'.ownBlock = some w.heap.size) → wpList P ops Q rest (a.put o.dst v') w') : wpList P ops Q (o :: rest) a w := by
  refine wpList_plain hgd fun K hK => ?_
  have hb6 : (n + 1) * by_ ≤ 140737488355328 := Nat.le_trans (Nat.mul_le_mul (show n + 1 ≤ 100001 by omega) hb24) (by decide)
  obtain ⟨v', w', hrun, h2, h3, _, h5⟩ := run_append_own_at (P := P) w base t o.type e i z 1 by_ ht hi hz hsize hby hzc (by decide) v n xs hown ⟨b, 0, none⟩ 1 c [u] rfl (by intro j y hj; rw [add_at, Nat.zero_add]; rcases j with _ | j <;> simp at hj; subst hj; exact hr) (by intro y hy; simp at hy; rw [hy]; exact hu) (by unfold maxLen; omega) hb6 hbase
  unfold Oper.wp execOp
  simp only [ho, resolve, invoke, builtin, Sem.run_bind, Sem.run_pure, Result.andThen_ok, List.map_toArray, List.map_cons, List.map_nil, hs, hx, hrun]
  exact hK _ _ (h v' w' h2 h3 h5)
end Go.Proofs.YtclieefpnbdbjaaGreat.Gf

namespace Go.Proofs.YtclieefpnbdbjaaGreat.Gf
set_option linter.unusedVariables false
set_option linter.unusedSimpArgs false
open Go.RowKit
open Go.ChangeShapes
theorem rdI_row2 {w : World} {a : Option Addr} {len cap : Nat} {zs : List Int}
    (h : (a = none ∧ len = 0 ∧ cap = 0 ∧ zs = []) ∨ ∃ x, a = some x ∧ len ≤ cap ∧ cap ≤ maxLen ∧ zs.length = cap ∧ (∀ i, i < zs.length → w.cell? (x.add i) = some (.int .i64 (zs.getD i 0))) ∧ ∀ n ∈ zs, (Lit.int .i64 n).wf = true) :
    ∃ p : List Int, RdI w (.slice a len cap) p ∧ ∀ z ∈ p, (Lit.int .i64 z).wf = true := by
  rcases h with ⟨rfl, rfl, rfl, rfl⟩ | ⟨x, rfl, hl, hm, hz, hcell, hwz⟩
  · exact ⟨[], Or.inl ⟨none, 0, rfl, rfl⟩, by simp⟩
  · have hlen : (zs.take len).length = len := by rw [List.length_take]; omega
    refine ⟨zs.take len, ?_, fun z hz1 => hwz z (List.mem_of_mem_take hz1)⟩
    by_cases h0 : len = 0
    · subst h0
      exact Or.inl ⟨_, cap, by simp, rfl⟩
    · obtain ⟨b, off, spot⟩ := x
      have hc := hcell 0 (by omega)
      have hspot : spot = none := by simpa [Addr.add] using World.cell?_spot hc
      subst hspot
      have hbw : b < w.heap.size := by
        have e : w.cell? ⟨b, off, none⟩ = some (.int .i64 (zs.getD 0 0)) := by simpa [Addr.add] using hc
        unfold World.cell? at e
        by_cases hb : b < w.heap.size
        · exact hb
        · rw [Array.getElem?_eq_none (by show w.heap.size ≤ b; omega)] at e; cases e
      refine Or.inr ⟨b, off, cap, fun h => by rw [h] at hlen; simp at hlen; omega, by rw [hlen], by rw [hlen]; omega, hbw, fun i hi => ?_⟩
      rw [hlen] at hi
      have e1 := hcell i (by omega)
      rw [add_at] at e1
      rw [e1]
      simp [List.getD, List.getElem?_take_of_lt hi]
end Go.Proofs.YtclieefpnbdbjaaGreat.Gf

namespace Go.Proofs.YtclieefpnbdbjaaGreat.Gf
set_option linter.unusedVariables false
set_option linter.unusedSimpArgs false
open Go.RowKit
/-- a disk: its sectors, what lasts, what waits, whether it is dead -/
structure DkS where
  s : Nat
  last : Int → Option (List UInt8)
  wait : Int → Option (List UInt8)
  dead : Bool
def noneI : Int → Option (List UInt8) := fun _ => none
def InS (s : Nat) (f : Int → Option (List UInt8)) : Prop := ∀ x b, f x = some b → 0 ≤ x ∧ x < (s : Int) ∧ 1 ≤ b.length ∧ b.length ≤ 4108
structure DkS.Ok (d : DkS) : Prop where
  s1 : 1 ≤ d.s
  s2 : d.s ≤ 4096
  il : InS d.s d.last
  iw : InS d.s d.wait
  dl : d.dead = true → d.last = noneI
  dw : d.dead = true → d.wait = noneI
def putB (f : Int → Option (List UInt8)) (x : Int) (b : List UInt8) : Int → Option (List UInt8) := fun y => if y = x then some b else f y
theorem InS.put {s : Nat} {f : Int → Option (List UInt8)} (h : InS s f) {x : Int} {b : List UInt8} (h0 : 0 ≤ x) (h1 : x < (s : Int)) (h2 : 1 ≤ b.length) (h3 : b.length ≤ 4108) : InS s (putB f x b) := by
  intro y c e
  unfold putB at e
  by_cases hy : y = x
  · rw [if_pos hy] at e
    simp at e
    subst e hy
    exact ⟨h0, h1, h2, h3⟩
  · rw [if_neg hy] at e
    exact h y c e
theorem InS.none (s : Nat) : InS s noneI := fun x b e => by cases e
def newD (s : Nat) : DkS := ⟨s, noneI, noneI, false⟩
theorem newD_ok {s : Nat} (h1 : 1 ≤ s) (h2 : s ≤ 4096) : (newD s).Ok := ⟨h1, h2, InS.none _, InS.none _, (fun h => by cases h), (fun h => by cases h)⟩
/-- why a sector is not read or written -/
def faX (d : DkS) (a : Int) : Int := if d.dead = true then 120 else if 0 ≤ a ∧ a < (d.s : Int) then 0 else 121
theorem faX_dead {d : DkS} (h : d.dead = true) (a : Int) : faX d a = 120 := if_pos h
theorem faX_out {d : DkS} (h : d.dead = false) {a : Int} (ha : ¬ (0 ≤ a ∧ a < (d.s : Int))) : faX d a = 121 := by unfold faX; rw [if_neg (by rw [h]; decide), if_neg ha]
theorem faX_ok {d : DkS} (h : d.dead = false) {a : Int} (ha : 0 ≤ a ∧ a < (d.s : Int)) : faX d a = 0 := by unfold faX; rw [if_neg (by rw [h]; decide), if_pos ha]
theorem faX_zero {d : DkS} {a : Int} (h : faX d a = 0) : d.dead = false ∧ 0 ≤ a ∧ a < (d.s : Int) := by
  unfold faX at h
  by_cases h1 : d.dead = true
  · rw [if_pos h1] at h; cases h
  · rw [if_neg h1] at h
    by_cases h2 : 0 ≤ a ∧ a < (d.s : Int)
    · exact ⟨by simpa using h1, h2⟩
    · rw [if_neg h2] at h; cases h
def OkB (b : List UInt8) : Prop := 1 ≤ b.length ∧ b.length ≤ 4108
instance (b : List UInt8) : Decidable (OkB b) := inferInstanceAs (Decidable (_ ∧ _))
def wrX (d : DkS) (a : Int) (b : List UInt8) : Int := if faX d a = 0 then (if OkB b then 0 else 1) else faX d a
def wrS (d : DkS) (a : Int) (b : List UInt8) : DkS := if faX d a = 0 ∧ OkB b then { d with wait := putB d.wait a b } else d
def atD (d : DkS) (a : Int) : Option (List UInt8) := match d.wait a with | some b => some b | none => d.last a
def rdB (d : DkS) (a : Int) : List UInt8 := if faX d a = 0 then (atD d a).getD [] else []
def flX (d : DkS) : Int := if d.dead = true then 120 else 0
def overB (f g : Int → Option (List UInt8)) : Int → Option (List UInt8) := fun x => match f x with | some b => some b | none => g x
def flS (d : DkS) : DkS := if d.dead = true then d else { d with last := overB d.wait d.last, wait := noneI }
def onlyB (f : Int → Option (List UInt8)) (keep : List Int) : Int → Option (List UInt8) := fun x => if x ∈ keep then f x else none
def crS (d : DkS) (keep : List Int) : DkS := { d with last := overB (onlyB d.wait keep) d.last, wait := noneI }
def faS (d : DkS) : DkS := ⟨d.s, noneI, noneI, true⟩
def reS (d : DkS) : DkS := ⟨d.s, noneI, noneI, false⟩
theorem overB_in {s : Nat} {f g : Int → Option (List UInt8)} (hf : InS s f) (hg : InS s g) : InS s (overB f g) := by
  intro x b e
  unfold overB at e
  cases hx : f x with
  | none => rw [hx] at e; exact hg x b e
  | some c => rw [hx] at e; simp at e; subst e; exact hf x c hx
theorem onlyB_in {s : Nat} {f : Int → Option (List UInt8)} (hf : InS s f) (keep : List Int) : InS s (onlyB f keep) := by
  intro x b e
  unfold onlyB at e
  by_cases h : x ∈ keep
  · rw [if_pos h] at e; exact hf x b e
  · rw [if_neg h] at e; cases e
theorem wrS_ok {d : DkS} (h : d.Ok) (a : Int) (b : List UInt8) : (wrS d a b).Ok := by
  unfold wrS
  by_cases hc : faX d a = 0 ∧ OkB b
  · rw [if_pos hc]
    have h2 := faX_zero hc.1
    refine ⟨h.s1, h.s2, h.il, h.iw.put h2.2.1 h2.2.2 hc.2.1 hc.2.2, h.dl, fun hd => ?_⟩
    have hd' : d.dead = true := hd
    rw [h2.1] at hd'
    cases hd'
  · rw [if_neg hc]; exact h
theorem flS_ok {d : DkS} (h : d.Ok) : (flS d).Ok := by
  unfold flS
  by_cases hc : d.dead = true
  · rw [if_pos hc]; exact h
  · rw [if_neg hc]
    exact ⟨h.s1, h.s2, overB_in h.iw h.il, InS.none _, fun hd => absurd hd hc, fun hd => absurd hd hc⟩
theorem onlyB_none (keep : List Int) : onlyB noneI keep = noneI := by funext x; unfold onlyB noneI; simp
theorem crS_ok {d : DkS} (h : d.Ok) (keep : List Int) : (crS d keep).Ok :=
  ⟨h.s1, h.s2, overB_in (onlyB_in h.iw keep) h.il, InS.none _, fun hd => by
    show overB (onlyB d.wait keep) d.last = noneI
    rw [h.dw hd, h.dl hd, onlyB_none]
    rfl, fun _ => rfl⟩
theorem faS_ok {d : DkS} (h : d.Ok) : (faS d).Ok := ⟨h.s1, h.s2, InS.none _, InS.none _, fun _ => rfl, fun _ => rfl⟩
theorem reS_ok {d : DkS} (h : d.Ok) : (reS d).Ok := ⟨h.s1, h.s2, InS.none _, InS.none _, (fun h => by cases h), (fun h => by cases h)⟩
end Go.Proofs.YtclieefpnbdbjaaGreat.Gf

namespace Go.Proofs.YtclieefpnbdbjaaGreat.Gf
set_option linter.unusedVariables false
set_option linter.unusedSimpArgs false
open Go.RowKit
structure TurnG (G : Nat → Prop) (w w' : World) : Prop where
  os : w'.os = w.os
  tape : w'.tape = w.tape
  output : w'.output = w.output
  size : w.heap.size ≤ w'.heap.size
  block : ∀ k, k < w.heap.size → ¬ G k → w'.heap[k]? = w.heap[k]?
theorem TurnG.refl (G : Nat → Prop) (w : World) : TurnG G w w := ⟨rfl, rfl, rfl, Nat.le_refl _, fun _ _ _ => rfl⟩
theorem TurnG.trans {G : Nat → Prop} {a b c : World} (h : TurnG G a b) (k : TurnG G b c) : TurnG G a c :=
  ⟨k.os.trans h.os, k.tape.trans h.tape, k.output.trans h.output, Nat.le_trans h.size k.size, fun i hi hg => (k.block i (Nat.lt_of_lt_of_le hi h.size) hg).trans (h.block i hi hg)⟩
theorem Below.turnG {w w' : World} (h : Below w.heap.size w w') (G : Nat → Prop) : TurnG G w w' := ⟨h.os, h.tape, h.output, h.size, fun k hk _ => h.block k hk⟩
theorem Only.turnG {g : Nat} {G : Nat → Prop} {w w' : World} (h : Only g w w') (hg : G g) : TurnG G w w' :=
  ⟨h.os, h.tape, h.output, by rw [h.size]; exact Nat.le_refl _, fun k _ hk => h.block k (fun e => hk (by rw [e]; exact hg))⟩
theorem TurnG.below {G : Nat → Prop} {B : Nat} {w w' : World} (h : TurnG G w w') (hg : ∀ g, G g → B ≤ g) (hB : B ≤ w.heap.size) : Below B w w' :=
  ⟨h.os, h.tape, h.output, h.size, fun k hk => h.block k (by omega) (fun e => by have := hg k e; omega)⟩
theorem TurnG.cell {G : Nat → Prop} {w w' : World} (h : TurnG G w w') {p : Addr} (hs : p.block < w.heap.size) (hp : ¬ G p.block) : w'.cell? p = w.cell? p := World.cell?_of_block (w := w) (h.block p.block hs hp)
theorem TurnG.frozen {G : Nat → Prop} {w w' : World} (h : TurnG G w w') {p : Addr} (hs : p.block < w.heap.size) (hp : ¬ G p.block) : w'.frozen? p = w.frozen? p := World.frozen?_of_block (w := w) (h.block p.block hs hp)
/-- one disk's blocks: only they have turned, and those that came to them are new -/
structure Grew (G : Nat → Prop) (w : World) (G' : Nat → Prop) (w' : World) : Prop where
  turn : TurnG G w w'
  grow : ∀ k, G' k → G k ∨ w.heap.size ≤ k
theorem Grew.refl (G : Nat → Prop) (w : World) : Grew G w G w := ⟨TurnG.refl G w, fun _ h => Or.inl h⟩
theorem Grew.trans {G G' G'' : Nat → Prop} {a b c : World} (h : Grew G a G' b) (k : Grew G' b G'' c) : Grew G a G'' c :=
  ⟨⟨k.turn.os.trans h.turn.os, k.turn.tape.trans h.turn.tape, k.turn.output.trans h.turn.output, Nat.le_trans h.turn.size k.turn.size, fun i hi hg =>
    (k.turn.block i (Nat.lt_of_lt_of_le hi h.turn.size) (fun e => (h.grow i e).elim hg (fun h1 => by omega))).trans (h.turn.block i hi hg)⟩,
   fun i hi => by
    rcases k.grow i hi with h1 | h1
    · exact h.grow i h1
    · exact Or.inr (Nat.le_trans h.turn.size h1)⟩
theorem Grew.of_turn {G : Nat → Prop} {w w' : World} (h : TurnG G w w') : Grew G w G w' := ⟨h, fun _ h => Or.inl h⟩
theorem Grew.of_below {G : Nat → Prop} {w w' : World} (h : Below w.heap.size w w') : Grew G w G w' := Grew.of_turn (Below.turnG h G)
theorem Grew.base {G G' : Nat → Prop} {w w' : World} {B : Nat} (h : Grew G w G' w') (hg : ∀ k, G k → B ≤ k) (hB : B ≤ w.heap.size) : ∀ k, G' k → B ≤ k := fun k hk => by
  rcases h.grow k hk with h1 | h1
  · exact hg k h1
  · omega
theorem Grew.below {G G' : Nat → Prop} {w w' : World} {B : Nat} (h : Grew G w G' w') (hg : ∀ k, G k → B ≤ k) (hB : B ≤ w.heap.size) : Below B w w' := h.turn.below hg hB
theorem Grew.off {G G' : Nat → Prop} {w w' : World} (h : Grew G w G' w') {k : Nat} (hk : k < w.heap.size) (hg : ¬ G k) : ¬ G' k := fun e => by
  rcases h.grow k e with h1 | h1
  · exact hg h1
  · omega
/-- a slice that lies in none of the blocks -/
def ApartG (G : Nat → Prop) (v : Value) : Prop := ∀ x n c, v = .slice (some x) n c → n = 0 ∨ ¬ G x.block
theorem Rd.turnG {G : Nat → Prop} {w w' : World} {v : Value} {p : List UInt8} (h : Rd w v p) (ha : ApartG G v) (ho : TurnG G w w') : Rd w' v p := by
  rcases h with h | ⟨b, off, cap, h1, h2, h3, h4, h5, h6⟩
  · exact Or.inl h
  · have hb : ¬ G b := by
      rcases ha _ _ _ h2 with e | e
      · exact absurd (List.length_eq_zero_iff.1 e) h1
      · exact e
    exact Or.inr ⟨b, off, cap, h1, h2, h3, h4, Nat.lt_of_lt_of_le h5 ho.size, fun i hi => (ho.cell (p := ⟨b, off + i, none⟩) h5 hb).trans (h6 i hi)⟩
/-- one that was laid behind them -/
theorem ApartG.own {w : World} {base e n : Nat} {v : Value} {xs : List Value} {G : Nat → Prop} (h : w.ownsRow base e 1 v n xs) (hg : ∀ g, G g → g < base) : ApartG G v := by
  intro x m c ev
  obtain ⟨_, ⟨hv, hn⟩ | ⟨g, cap, cur, hv, hgb, _⟩⟩ := h
  · rw [hv] at ev; simp at ev
  · rw [hv] at ev
    simp at ev
    obtain ⟨rfl, _, _⟩ := ev
    exact Or.inr (fun h => by have := hg g h; omega)
theorem ApartG.nil (G : Nat → Prop) (c : Nat) (a : Option Addr) : ApartG G (.slice a 0 c) := fun x n c' e => by simp at e; exact Or.inl e.2.1.symm
theorem owns_block {w w' : World} {base e size n : Nat} {v : Value} {xs : List Value} (h : w.ownsRow base e size v n xs) (hb : ∀ g, v.ownBlock = some g → w'.heap[g]? = w.heap[g]?) : w'.ownsRow base e size v n xs := by
  obtain ⟨h0, h | ⟨g, cap, cur, hv, hg, hh, r⟩⟩ := h
  · exact ⟨h0, Or.inl h⟩
  · refine ⟨h0, Or.inr ⟨g, cap, cur, hv, hg, ?_, r⟩⟩
    rw [hb g (by rw [hv]; rfl)]
    exact hh
theorem owns_at {w : World} {base e size n b o c : Nat} {xs : List Value} (h : w.ownsRow base e size (.slice (some ⟨b, o, none⟩) n c) n xs) : base ≤ b ∧ b < w.heap.size := by
  obtain ⟨h0, h | ⟨g, cap, cur, hv, hg, hh, r⟩⟩ := h
  · simp at h
  · simp at hv
    obtain ⟨⟨rfl, _⟩, _⟩ := hv
    exact ⟨hg, (Array.getElem?_eq_some_iff.1 hh).1⟩
end Go.Proofs.YtclieefpnbdbjaaGreat.Gf
