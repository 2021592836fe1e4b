/- TEXTS JOINED: DkTurn, DkMath, DkAt, DkCA. -/
import Derived.Test.YtddnfhfangfgeaaGreatChecked
import GoSem.Claim
import GoSem.ClaimJoined
import GoSem.ClaimMapViews
import Derived.JoinedTies
import Derived.KernelRfl
import Derived.WalkKit
import Derived.Deep.QuietTactic
import Derived.BigQuiet
import Derived.WalkLawsBesides
import Derived.WalkSpells
import Derived.OpenShut
import Derived.Laws.CopyOwn
import Derived.Deep.AppendLies
import Derived.Test.YtddnfhfangfgeaaGreatRows
import Derived.Test.YtddnfhfangfgeaaGreatTome2
import Derived.Test.YtddnfhfangfgeaaGreatTome3
import Derived.Deep.Slices
import Derived.Maps.OwnSet
import Derived.Maps.Ext
import Derived.Test.YtddnfhfangfgeaaGreatTome30
import Derived.Laws.AppendOwnNone
import Derived.Lib.SliceRun
namespace Go.Proofs.YtddnfhfangfgeaaGreat.Gf
set_option linter.unusedVariables false
set_option linter.unusedSimpArgs false
open Go.RowKit
structure TurnG (G : Nat → Prop) (w w' : World) : Prop where
  os : w'.os = w.os
  tape : w'.tape = w.tape
  output : w'.output = w.output
  size : w.heap.size ≤ w'.heap.size
  block : ∀ k, k < w.heap.size → ¬ G k → w'.heap[k]? = w.heap[k]?
theorem TurnG.refl (G : Nat → Prop) (w : World) : TurnG G w w := ⟨rfl, rfl, rfl, Nat.le_refl _, fun _ _ _ => rfl⟩
theorem TurnG.trans {G : Nat → Prop} {a b c : World} (h : TurnG G a b) (k : TurnG G b c) : TurnG G a c :=
  ⟨k.os.trans h.os, k.tape.trans h.tape, k.output.trans h.output, Nat.le_trans h.size k.size, fun i hi hg => (k.block i (Nat.lt_of_lt_of_le hi h.size) hg).trans (h.block i hi hg)⟩
theorem Below.turnG {w w' : World} (h : Below w.heap.size w w') (G : Nat → Prop) : TurnG G w w' := ⟨h.os, h.tape, h.output, h.size, fun k hk _ => h.block k hk⟩
theorem Only.turnG {g : Nat} {G : Nat → Prop} {w w' : World} (h : Only g w w') (hg : G g) : TurnG G w w' :=
  ⟨h.os, h.tape, h.output, by rw [h.size]; exact Nat.le_refl _, fun k _ hk => h.block k (fun e => hk (by rw [e]; exact hg))⟩
theorem TurnG.below {G : Nat → Prop} {B : Nat} {w w' : World} (h : TurnG G w w') (hg : ∀ g, G g → B ≤ g) (hB : B ≤ w.heap.size) : Below B w w' :=
  ⟨h.os, h.tape, h.output, h.size, fun k hk => h.block k (by omega) (fun e => by have := hg k e; omega)⟩
theorem TurnG.cell {G : Nat → Prop} {w w' : World} (h : TurnG G w w') {p : Addr} (hs : p.block < w.heap.size) (hp : ¬ G p.block) : w'.cell? p = w.cell? p := World.cell?_of_block (w := w) (h.block p.block hs hp)
theorem TurnG.frozen {G : Nat → Prop} {w w' : World} (h : TurnG G w w') {p : Addr} (hs : p.block < w.heap.size) (hp : ¬ G p.block) : w'.frozen? p = w.frozen? p := World.frozen?_of_block (w := w) (h.block p.block hs hp)
/-- one disk's blocks: only they have turned, and those that came to them are new -/
structure Grew (G : Nat → Prop) (w : World) (G' : Nat → Prop) (w' : World) : Prop where
  turn : TurnG G w w'
  grow : ∀ k, G' k → G k ∨ w.heap.size ≤ k
theorem Grew.refl (G : Nat → Prop) (w : World) : Grew G w G w := ⟨TurnG.refl G w, fun _ h => Or.inl h⟩
theorem Grew.trans {G G' G'' : Nat → Prop} {a b c : World} (h : Grew G a G' b) (k : Grew G' b G'' c) : Grew G a G'' c :=
  ⟨⟨k.turn.os.trans h.turn.os, k.turn.tape.trans h.turn.tape, k.turn.output.trans h.turn.output, Nat.le_trans h.turn.size k.turn.size, fun i hi hg =>
    (k.turn.block i (Nat.lt_of_lt_of_le hi h.turn.size) (fun e => (h.grow i e).elim hg (fun h1 => by omega))).trans (h.turn.block i hi hg)⟩,
   fun i hi => by
    rcases k.grow i hi with h1 | h1
    · exact h.grow i h1
    · exact Or.inr (Nat.le_trans h.turn.size h1)⟩
theorem Grew.of_turn {G : Nat → Prop} {w w' : World} (h : TurnG G w w') : Grew G w G w' := ⟨h, fun _ h => Or.inl h⟩
theorem Grew.of_below {G : Nat → Prop} {w w' : World} (h : Below w.heap.size w w') : Grew G w G w' := Grew.of_turn (Below.turnG h G)
theorem Grew.base {G G' : Nat → Prop} {w w' : World} {B : Nat} (h : Grew G w G' w') (hg : ∀ k, G k → B ≤ k) (hB : B ≤ w.heap.size) : ∀ k, G' k → B ≤ k := fun k hk => by
  rcases h.grow k hk with h1 | h1
  · exact hg k h1
  · omega
theorem Grew.below {G G' : Nat → Prop} {w w' : World} {B : Nat} (h : Grew G w G' w') (hg : ∀ k, G k → B ≤ k) (hB : B ≤ w.heap.size) : Below B w w' := h.turn.below hg hB
theorem Grew.off {G G' : Nat → Prop} {w w' : World} (h : Grew G w G' w') {k : Nat} (hk : k < w.heap.size) (hg : ¬ G k) : ¬ G' k := fun e => by
  rcases h.grow k e with h1 | h1
  · exact hg h1
  · omega
/-- a slice that lies in none of the blocks -/
def ApartG (G : Nat → Prop) (v : Value) : Prop := ∀ x n c, v = .slice (some x) n c → n = 0 ∨ ¬ G x.block
theorem Rd.turnG {G : Nat → Prop} {w w' : World} {v : Value} {p : List UInt8} (h : Rd w v p) (ha : ApartG G v) (ho : TurnG G w w') : Rd w' v p := by
  rcases h with h | ⟨b, off, cap, h1, h2, h3, h4, h5, h6⟩
  · exact Or.inl h
  · have hb : ¬ G b := by
      rcases ha _ _ _ h2 with e | e
      · exact absurd (List.length_eq_zero_iff.1 e) h1
      · exact e
    exact Or.inr ⟨b, off, cap, h1, h2, h3, h4, Nat.lt_of_lt_of_le h5 ho.size, fun i hi => (ho.cell (p := ⟨b, off + i, none⟩) h5 hb).trans (h6 i hi)⟩
theorem Rd.lay {w : World} {v : Value} {p : List UInt8} (h : Rd w v p) {x : Addr} {n c : Nat} (e : v = .slice (some x) n c) : n = 0 ∨ x.block < w.heap.size := by
  rcases h with ⟨a, c', _, e2, _⟩ | ⟨b, off, cap, h1, h2, h3, h4, h5, h6⟩
  · subst e2; simp at e; exact Or.inl e.2.1.symm
  · subst h2; simp at e; obtain ⟨rfl, rfl, rfl⟩ := e; exact Or.inr h5
/-- it stays apart -/
theorem ApartG.grew {G G' : Nat → Prop} {w w' : World} {v : Value} {p : List UInt8} (ha : ApartG G v) (h : Rd w v p) (g : Grew G w G' w') : ApartG G' v := by
  intro x n c e
  rcases ha x n c e with h1 | h1
  · exact Or.inl h1
  · rcases h.lay e with h2 | h2
    · exact Or.inl h2
    · exact Or.inr (g.off h2 h1)
theorem Rd.grew {G G' : Nat → Prop} {w w' : World} {v : Value} {p : List UInt8} (h : Rd w v p) (ha : ApartG G v) (g : Grew G w G' w') : Rd w' v p := h.turnG ha g.turn
/-- one that was laid behind them -/
theorem ApartG.own {w : World} {base e n : Nat} {v : Value} {xs : List Value} {G : Nat → Prop} (h : w.ownsRow base e 1 v n xs) (hg : ∀ g, G g → g < base) : ApartG G v := by
  intro x m c ev
  obtain ⟨_, ⟨hv, hn⟩ | ⟨g, cap, cur, hv, hgb, _⟩⟩ := h
  · rw [hv] at ev; simp at ev
  · rw [hv] at ev
    simp at ev
    obtain ⟨rfl, _, _⟩ := ev
    exact Or.inr (fun h => by have := hg g h; omega)
theorem owns_block {w w' : World} {base e size n : Nat} {v : Value} {xs : List Value} (h : w.ownsRow base e size v n xs) (hb : ∀ g, v.ownBlock = some g → w'.heap[g]? = w.heap[g]?) : w'.ownsRow base e size v n xs := by
  obtain ⟨h0, h | ⟨g, cap, cur, hv, hg, hh, r⟩⟩ := h
  · exact ⟨h0, Or.inl h⟩
  · refine ⟨h0, Or.inr ⟨g, cap, cur, hv, hg, ?_, r⟩⟩
    rw [hb g (by rw [hv]; rfl)]
    exact hh
theorem owns_at {w : World} {base e size n b o c : Nat} {xs : List Value} (h : w.ownsRow base e size (.slice (some ⟨b, o, none⟩) n c) n xs) : base ≤ b ∧ b < w.heap.size := by
  obtain ⟨h0, h | ⟨g, cap, cur, hv, hg, hh, r⟩⟩ := h
  · simp at h
  · simp at hv
    obtain ⟨⟨rfl, _⟩, _⟩ := hv
    exact ⟨hg, (Array.getElem?_eq_some_iff.1 hh).1⟩
end Go.Proofs.YtddnfhfangfgeaaGreat.Gf

namespace Go.Proofs.YtddnfhfangfgeaaGreat.Gf
set_option linter.unusedVariables false
set_option linter.unusedSimpArgs false
open Go.RowKit
/-- a disk: its sectors, what lasts, what waits, whether it is dead -/
structure DkS where
  s : Nat
  last : Int → Option (List UInt8)
  wait : Int → Option (List UInt8)
  dead : Bool
def noneI : Int → Option (List UInt8) := fun _ => none
def InS (s : Nat) (f : Int → Option (List UInt8)) : Prop := ∀ x b, f x = some b → 0 ≤ x ∧ x < (s : Int) ∧ 1 ≤ b.length ∧ b.length ≤ 4108
structure DkS.Ok (d : DkS) : Prop where
  s1 : 1 ≤ d.s
  s2 : d.s ≤ 4096
  il : InS d.s d.last
  iw : InS d.s d.wait
  dl : d.dead = true → d.last = noneI
  dw : d.dead = true → d.wait = noneI
def putB (f : Int → Option (List UInt8)) (x : Int) (b : List UInt8) : Int → Option (List UInt8) := fun y => if y = x then some b else f y
theorem InS.put {s : Nat} {f : Int → Option (List UInt8)} (h : InS s f) {x : Int} {b : List UInt8} (h0 : 0 ≤ x) (h1 : x < (s : Int)) (h2 : 1 ≤ b.length) (h3 : b.length ≤ 4108) : InS s (putB f x b) := by
  intro y c e
  unfold putB at e
  by_cases hy : y = x
  · rw [if_pos hy] at e
    simp at e
    subst e hy
    exact ⟨h0, h1, h2, h3⟩
  · rw [if_neg hy] at e
    exact h y c e
theorem InS.none (s : Nat) : InS s noneI := fun x b e => by cases e
def newD (s : Nat) : DkS := ⟨s, noneI, noneI, false⟩
theorem newD_ok {s : Nat} (h1 : 1 ≤ s) (h2 : s ≤ 4096) : (newD s).Ok := ⟨h1, h2, InS.none _, InS.none _, (fun h => by cases h), (fun h => by cases h)⟩
/-- why a sector is not read or written -/
def faX (d : DkS) (a : Int) : Int := if d.dead = true then 120 else if 0 ≤ a ∧ a < (d.s : Int) then 0 else 121
theorem faX_dead {d : DkS} (h : d.dead = true) (a : Int) : faX d a = 120 := if_pos h
theorem faX_out {d : DkS} (h : d.dead = false) {a : Int} (ha : ¬ (0 ≤ a ∧ a < (d.s : Int))) : faX d a = 121 := by unfold faX; rw [if_neg (by rw [h]; decide), if_neg ha]
theorem faX_ok {d : DkS} (h : d.dead = false) {a : Int} (ha : 0 ≤ a ∧ a < (d.s : Int)) : faX d a = 0 := by unfold faX; rw [if_neg (by rw [h]; decide), if_pos ha]
theorem faX_zero {d : DkS} {a : Int} (h : faX d a = 0) : d.dead = false ∧ 0 ≤ a ∧ a < (d.s : Int) := by
  unfold faX at h
  by_cases h1 : d.dead = true
  · rw [if_pos h1] at h; cases h
  · rw [if_neg h1] at h
    by_cases h2 : 0 ≤ a ∧ a < (d.s : Int)
    · exact ⟨by simpa using h1, h2⟩
    · rw [if_neg h2] at h; cases h
def OkB (b : List UInt8) : Prop := 1 ≤ b.length ∧ b.length ≤ 4108
instance (b : List UInt8) : Decidable (OkB b) := inferInstanceAs (Decidable (_ ∧ _))
def wrX (d : DkS) (a : Int) (b : List UInt8) : Int := if faX d a = 0 then (if OkB b then 0 else 1) else faX d a
def wrS (d : DkS) (a : Int) (b : List UInt8) : DkS := if faX d a = 0 ∧ OkB b then { d with wait := putB d.wait a b } else d
def atD (d : DkS) (a : Int) : Option (List UInt8) := match d.wait a with | some b => some b | none => d.last a
def rdB (d : DkS) (a : Int) : List UInt8 := if faX d a = 0 then (atD d a).getD [] else []
def faS (d : DkS) : DkS := ⟨d.s, noneI, noneI, true⟩
def reS (d : DkS) : DkS := ⟨d.s, noneI, noneI, false⟩
/-- the place of a byte -/
def atN (at_ : Int) (n : Nat) : Nat := (if at_ < 0 then (-(at_ + 1)).toNat else at_.toNat) % n
def chB (b : List UInt8) (at_ : Int) (y : UInt8) : List UInt8 := b.set (atN at_ b.length) (co b (atN at_ b.length) ^^^ y)
theorem chB_length (b : List UInt8) (at_ : Int) (y : UInt8) : (chB b at_ y).length = b.length := List.length_set
def coX (d : DkS) (a : Int) : Int := if faX d a = 0 then (if atD d a = none then 1 else 0) else faX d a
def coS (d : DkS) (a at_ : Int) (y : UInt8) : DkS := if faX d a = 0 then (match d.wait a with | some b => { d with wait := putB d.wait a (chB b at_ y) } | none => match d.last a with | some b => { d with last := putB d.last a (chB b at_ y) } | none => d) else d
theorem wrS_ok {d : DkS} (h : d.Ok) (a : Int) (b : List UInt8) : (wrS d a b).Ok := by
  unfold wrS
  by_cases hc : faX d a = 0 ∧ OkB b
  · rw [if_pos hc]
    have h2 := faX_zero hc.1
    refine ⟨h.s1, h.s2, h.il, h.iw.put h2.2.1 h2.2.2 hc.2.1 hc.2.2, h.dl, fun hd => ?_⟩
    have hd' : d.dead = true := hd
    rw [h2.1] at hd'
    cases hd'
  · rw [if_neg hc]; exact h
theorem faS_ok {d : DkS} (h : d.Ok) : (faS d).Ok := ⟨h.s1, h.s2, InS.none _, InS.none _, fun _ => rfl, fun _ => rfl⟩
theorem reS_ok {d : DkS} (h : d.Ok) : (reS d).Ok := ⟨h.s1, h.s2, InS.none _, InS.none _, (fun h => by cases h), (fun h => by cases h)⟩
theorem coS_ok {d : DkS} (h : d.Ok) (a at_ : Int) (y : UInt8) : (coS d a at_ y).Ok := by
  unfold coS
  by_cases hc : faX d a = 0
  · rw [if_pos hc]
    have h2 := faX_zero hc
    have nd : ∀ {e : DkS}, e.dead = d.dead → e.dead = true → False := fun he ht => by rw [he, h2.1] at ht; cases ht
    cases hw : d.wait a with
    | some b =>
      have h3 := h.iw a b hw
      exact ⟨h.s1, h.s2, h.il, h.iw.put h2.2.1 h2.2.2 (by rw [chB_length]; exact h3.2.2.1) (by rw [chB_length]; exact h3.2.2.2), h.dl, fun hd => (nd (e := d) rfl hd).elim⟩
    | none =>
      cases hl : d.last a with
      | some b =>
        have h3 := h.il a b hl
        exact ⟨h.s1, h.s2, h.il.put h2.2.1 h2.2.2 (by rw [chB_length]; exact h3.2.2.1) (by rw [chB_length]; exact h3.2.2.2), h.iw, fun hd => (nd (e := d) rfl hd).elim, h.dw⟩
      | none => exact h
  · rw [if_neg hc]; exact h
/-- what is held, by its place -/
def heldL (f : Int → Option (List UInt8)) (s : Nat) : List (Int × List UInt8) := (List.range s).filterMap fun i : Nat => (f (i : Int)).map fun b => ((i : Int), b)
theorem heldL_succ (f : Int → Option (List UInt8)) (s : Nat) : heldL f (s + 1) = heldL f s ++ (match f (s : Int) with | some b => [((s : Int), b)] | none => []) := by
  unfold heldL
  rw [List.range_succ, List.filterMap_append]
  congr 1
  cases h : f (s : Int) <;> simp [h]
theorem wrS_s (d : DkS) (a : Int) (b : List UInt8) : (wrS d a b).s = d.s := by unfold wrS; split <;> rfl
theorem coS_s (d : DkS) (a at_ : Int) (y : UInt8) : (coS d a at_ y).s = d.s := by
  unfold coS
  split
  · split
    · rfl
    · split <;> rfl
  · rfl
end Go.Proofs.YtddnfhfangfgeaaGreat.Gf

namespace Go.Proofs.YtddnfhfangfgeaaGreat.Gf
set_option linter.unusedVariables false
set_option linter.unusedSimpArgs false
open Go.RowKit
open Go.Maps (Keyed)
open Go.ChangeMaps Go.MapKept
/-- a side of a disk: what waits (true), or what lasts -/
def sideD (d : DkS) (q : Bool) : Int → Option (List UInt8) := if q = true then d.wait else d.last
def setD (d : DkS) (q : Bool) (f : Int → Option (List UInt8)) : DkS := if q = true then { d with wait := f } else { d with last := f }
theorem setD_s (d : DkS) (q : Bool) (f : Int → Option (List UInt8)) : (setD d q f).s = d.s := by cases q <;> rfl
theorem setD_dead (d : DkS) (q : Bool) (f : Int → Option (List UInt8)) : (setD d q f).dead = d.dead := by cases q <;> rfl
theorem side_set (d : DkS) (q : Bool) (f : Int → Option (List UInt8)) : sideD (setD d q f) q = f := by cases q <;> rfl
theorem side_other (d : DkS) {q r : Bool} (h : r ≠ q) (f : Int → Option (List UInt8)) : sideD (setD d q f) r = sideD d r := by cases q <;> cases r <;> first | rfl | exact absurd rfl h
def valI (f : Int → Option (List UInt8)) (B C : Int → Nat) (x : Int) : Option Value := (f x).map fun p => .slice (some ⟨B x, 0, none⟩) p.length (C x)
def updQ (B : Bool → Int → Nat) (q : Bool) (a : Int) (g : Nat) : Bool → Int → Nat := fun r x => if r = q ∧ x = a then g else B r x
theorem updQ_at (B : Bool → Int → Nat) (q : Bool) (a : Int) (g : Nat) : updQ B q a g q a = g := if_pos ⟨rfl, rfl⟩
theorem updQ_ne (B : Bool → Int → Nat) {q r : Bool} {a x : Int} (h : ¬ (r = q ∧ x = a)) (g : Nat) : updQ B q a g r x = B r x := if_neg h
theorem valI_put (f : Int → Option (List UInt8)) (B C : Bool → Int → Nat) (q : Bool) (a : Int) (g c : Nat) (p : List UInt8) (x : Int) :
    valI (putB f a p) (updQ B q a g q) (updQ C q a c q) x = putI (valI f (B q) (C q)) a (.slice (some ⟨g, 0, none⟩) p.length c) x := by
  unfold valI putB putI
  by_cases h : x = a
  · subst h
    rw [if_pos rfl, if_pos rfl, updQ_at, updQ_at]
    rfl
  · rw [if_neg h, if_neg h, updQ_ne B (fun e => h e.2), updQ_ne C (fun e => h e.2)]
structure DkM (w : World) (db : Nat) (mb : Bool → Nat) (B C : Bool → Int → Nat) (G : Nat → Prop) (d : DkS) : Prop where
  c0 : w.cell? ⟨db, 0, none⟩ = some (.int .i64 (d.s : Int))
  c1 : w.cell? ⟨db, 1, none⟩ = some (.bool d.dead)
  c2 : w.cell? ⟨db, 2, none⟩ = some (.map (some (mb false)))
  c3 : w.cell? ⟨db, 3, none⟩ = some (.map (some (mb true)))
  fz : w.frozen? ⟨db, 1, none⟩ = false
  mp : ∀ q, MapI Tryz.prog 3 w (mb q) d.s (valI (sideD d q) (B q) (C q))
  row : ∀ q x p, sideD d q x = some p → w.ownsRow 0 5 1 (.slice (some ⟨B q x, 0, none⟩) p.length (C q x)) p.length (p.map vb)
  gd : G db
  gm : ∀ q, G (mb q)
  gb : ∀ q x p, sideD d q x = some p → G (B q x)
  lt : ∀ k, G k → k < w.heap.size
  lw : mb false ≠ mb true
  ins : ∀ q, InS d.s (sideD d q)
  s1 : 1 ≤ d.s
  s2 : d.s ≤ 4096
def InjD (d : DkS) (B : Bool → Int → Nat) : Prop := ∀ q x p r y p', sideD d q x = some p → sideD d r y = some p' → B q x = B r y → q = r ∧ x = y
def DkIn (w : World) (db : Nat) (mb : Bool → Nat) (B C : Bool → Int → Nat) (G : Nat → Prop) (d : DkS) : Prop := DkM w db mb B C G d ∧ InjD d B ∧ d.Ok
def DiskAt (w : World) (db : Nat) (G : Nat → Prop) (d : DkS) : Prop := ∃ mb B C, DkIn w db mb B C G d
theorem keyed_int : Keyed Tryz.prog 3 := Maps.int_keyed (q := .i64) (by kernel_rfl)
theorem under_map : Tryz.prog.underlying 119 = some (.map 3 36) := by kernel_rfl
theorem zero_bytes (w : World) : (zeroValue 36).run Tryz.prog w = .ok (.slice none 0 0) w := by kernel_rfl
theorem key_int {x : Int} (h : (Lit.int .i64 x).wf = true) : keyOf Tryz.prog 3 (.int .i64 x) = some (.int .i64 x) := by
  have : Tryz.prog.underlying 3 = some (.int .i64) := by kernel_rfl
  simp [keyOf, this, mapKey, h]
theorem MapI.isMap {P : Program} {K b S : Nat} {w : World} {f : Int → Option Value} (h : MapI P K w b S f) : ∃ es clock, w.heap[b]? = some (.map es clock) := by
  obtain ⟨D, ⟨es, clock, hb, _⟩, _⟩ := h
  exact ⟨es, clock, hb⟩
theorem MapI.noCell {P : Program} {K b S : Nat} {w : World} {f : Int → Option Value} (h : MapI P K w b S f) (o : Nat) : w.cell? ⟨b, o, none⟩ = none := by
  obtain ⟨es, clock, hb⟩ := h.isMap
  unfold World.cell?
  rw [hb]
theorem row_cells {w : World} {e g n c : Nat} {xs : List Value} (h : w.ownsRow 0 e 1 (.slice (some ⟨g, 0, none⟩) n c) n xs) : ∃ cur, w.heap[g]? = some (.cells cur e (0, 0)) := by
  obtain ⟨h0, h | ⟨g', cap, cur, hv, hg, hh, r⟩⟩ := h
  · simp at h
  · simp at hv
    obtain ⟨rfl, _⟩ := hv
    exact ⟨cur, hh⟩
section
variable {w w' : World} {db : Nat} {mb : Bool → Nat} {B C : Bool → Int → Nat} {G : Nat → Prop} {d : DkS}
theorem DkM.db_ne (h : DkM w db mb B C G d) (q : Bool) : db ≠ mb q := fun e => by
  have h1 := (h.mp q).noCell 0
  rw [← e, h.c0] at h1
  cases h1
theorem DkM.row_ne (h : DkM w db mb B C G d) {q : Bool} {x : Int} {p : List UInt8} (hp : sideD d q x = some p) (r : Bool) : B q x ≠ mb r := fun e => by
  obtain ⟨cur, h1⟩ := row_cells (h.row q x p hp)
  obtain ⟨es, clock, h2⟩ := (h.mp r).isMap
  rw [e, h2] at h1
  cases h1
theorem DkM.row_db (h : DkM w db mb B C G d) {q : Bool} {x : Int} {p : List UInt8} (hp : sideD d q x = some p) : B q x ≠ db := fun e => by
  have h1 := Rd.owned (h.row q x p hp)
  have h2 := h.ins q x p hp
  rcases h1 with ⟨_, _, h3, _⟩ | ⟨b, off, cap, h3, h4, _, _, _, h5⟩
  · rw [h3] at h2; simp at h2
  · have h6 := h5 0 (by omega)
    simp at h4
    obtain ⟨⟨rfl, rfl⟩, _⟩ := h4
    rw [e, Nat.add_zero, h.c0] at h6
    simp at h6
theorem DkM.mb_ne (h : DkM w db mb B C G d) {q r : Bool} (e : q ≠ r) : mb q ≠ mb r := by
  have := h.lw
  cases q <;> cases r <;> first | exact absurd rfl e | assumption | exact Ne.symm this
/-- blocks of the disk that have not turned -/
theorem DkM.keep (h : DkM w db mb B C G d) (hk : ∀ k, G k → w'.heap[k]? = w.heap[k]?) (hs : w.heap.size ≤ w'.heap.size) : DkM w' db mb B C G d where
  c0 := (World.cell?_of_block (w := w) (hk db h.gd)).trans h.c0
  c1 := (World.cell?_of_block (w := w) (hk db h.gd)).trans h.c1
  c2 := (World.cell?_of_block (w := w) (hk db h.gd)).trans h.c2
  c3 := (World.cell?_of_block (w := w) (hk db h.gd)).trans h.c3
  fz := (World.frozen?_of_block (w := w) (hk db h.gd)).trans h.fz
  mp := fun q => (h.mp q).of_block (hk _ (h.gm q))
  row := fun q x p hp => owns_block (h.row q x p hp) (fun g hg => by
    cases hg
    exact hk _ (h.gb q x p hp))
  gd := h.gd
  gm := h.gm
  gb := h.gb
  lt := fun k hk => Nat.lt_of_lt_of_le (h.lt k hk) hs
  lw := h.lw
  ins := h.ins
  s1 := h.s1
  s2 := h.s2
theorem DkM.below (h : DkM w db mb B C G d) (hb : Below w.heap.size w w') : DkM w' db mb B C G d := h.keep (fun k hk => hb.block k (h.lt k hk)) hb.size
theorem DiskAt.below (h : DiskAt w db G d) (hb : Below w.heap.size w w') : DiskAt w' db G d := by
  obtain ⟨mb, B, C, h1, h2, h3⟩ := h
  exact ⟨mb, B, C, h1.below hb, h2, h3⟩
theorem DiskAt.keep (h : DiskAt w db G d) (hk : ∀ k, G k → w'.heap[k]? = w.heap[k]?) (hs : w.heap.size ≤ w'.heap.size) : DiskAt w' db G d := by
  obtain ⟨mb, B, C, h1, h2, h3⟩ := h
  exact ⟨mb, B, C, h1.keep hk hs, h2, h3⟩
theorem DiskAt.lt (h : DiskAt w db G d) : ∀ k, G k → k < w.heap.size := by
  obtain ⟨mb, B, C, h1, h2, h3⟩ := h
  exact h1.lt
theorem mapTurned_os {b : Nat} (h : w.mapTurned w' b) : w'.os = w.os ∧ w'.tape = w.tape ∧ w'.output = w.output ∧ w'.heap.size = w.heap.size := by
  obtain ⟨es, clock, es', clock', hb, rfl⟩ := h
  refine ⟨rfl, rfl, rfl, ?_⟩
  simp [setBlock]
theorem mapTurned_turnG {b : Nat} (h : w.mapTurned w' b) (hg : G b) : TurnG G w w' := by
  obtain ⟨h1, h2, h3, h4⟩ := mapTurned_os h
  exact ⟨h1, h2, h3, by rw [h4]; exact Nat.le_refl _, fun k _ hk => mapTurned_block h (fun e => hk (by rw [e]; exact hg))⟩
/-- a map of the disk has turned; its other parts stand -/
theorem DkM.turned (h : DkM w db mb B C G d) {q : Bool} (ht : w.mapTurned w' (mb q)) {B' C' : Bool → Int → Nat} {f : Int → Option (List UInt8)} (G' : Nat → Prop) (hG : ∀ k, G k → G' k) (hlt : ∀ k, G' k → k < w.heap.size)
    (hm : MapI Tryz.prog 3 w' (mb q) d.s (valI f (B' q) (C' q))) (hB : ∀ r, r ≠ q → ∀ x, B' r x = B r x) (hC : ∀ r, r ≠ q → ∀ x, C' r x = C r x) (hf : InS d.s f)
    (hr : ∀ x p, f x = some p → G' (B' q x) ∧ w.ownsRow 0 5 1 (.slice (some ⟨B' q x, 0, none⟩) p.length (C' q x)) p.length (p.map vb)) : DkM w' db mb B' C' G' (setD d q f) := by
  have hb : ∀ k, k ≠ mb q → w'.heap[k]? = w.heap[k]? := fun k hk => mapTurned_block ht hk
  have hs := (mapTurned_os ht).2.2.2
  have hdb := hb db (h.db_ne q)
  have hne : ∀ {g n c : Nat} {xs : List Value}, w.ownsRow 0 5 1 (.slice (some ⟨g, 0, none⟩) n c) n xs → g ≠ mb q := fun ho e => by
    obtain ⟨cur, h1⟩ := row_cells ho
    obtain ⟨es, clock, h2⟩ := (h.mp q).isMap
    rw [e, h2] at h1
    cases h1
  have rr : ∀ r x p, sideD (setD d q f) r x = some p → G' (B' r x) ∧ w.ownsRow 0 5 1 (.slice (some ⟨B' r x, 0, none⟩) p.length (C' r x)) p.length (p.map vb) := by
    intro r x p hp
    by_cases e : r = q
    · subst e
      rw [side_set] at hp
      exact hr x p hp
    · rw [side_other d e] at hp
      rw [hB r e, hC r e]
      exact ⟨hG _ (h.gb r x p hp), h.row r x p hp⟩
  refine ⟨?_, ?_, ?_, ?_, ?_, fun r => ?_, fun r x p hp => ?_, hG _ h.gd, fun r => hG _ (h.gm r), fun r x p hp => (rr r x p hp).1, fun k hk => by rw [hs]; exact hlt k hk, h.lw, fun r => ?_, ?_, ?_⟩
  · rw [setD_s]; exact (World.cell?_of_block (w := w) hdb).trans h.c0
  · rw [setD_dead]; exact (World.cell?_of_block (w := w) hdb).trans h.c1
  · exact (World.cell?_of_block (w := w) hdb).trans h.c2
  · exact (World.cell?_of_block (w := w) hdb).trans h.c3
  · exact (World.frozen?_of_block (w := w) hdb).trans h.fz
  · rw [setD_s]
    by_cases e : r = q
    · subst e
      rw [side_set]
      exact hm
    · rw [side_other d e, show B' r = B r from funext (hB r e), show C' r = C r from funext (hC r e)]
      exact (h.mp r).of_block (hb _ (h.mb_ne e))
  · have h1 := (rr r x p hp).2
    exact owns_block h1 (fun g hg => by
      cases hg
      exact hb _ (hne h1))
  · rw [setD_s]
    by_cases e : r = q
    · subst e; rw [side_set]; exact hf
    · rw [side_other d e]; exact h.ins r
  · rw [setD_s]; exact h.s1
  · rw [setD_s]; exact h.s2
/-- 'm[a] = bytes' -/
theorem DkM.put (h : DkM w db mb B C G d) (q : Bool) {a : Int} {p : List UInt8} {g c : Nat} (ha : (Lit.int .i64 a).wf = true) (h0 : 0 ≤ a) (h1 : a < (d.s : Int)) (hp : 1 ≤ p.length ∧ p.length ≤ 4108) (hr : w.ownsRow 0 5 1 (.slice (some ⟨g, 0, none⟩) p.length c) p.length (p.map vb)) :
    ∃ w', (Instr.mapUpdate 119 (.map (some (mb q))) (.int .i64 a) (.slice (some ⟨g, 0, none⟩) p.length c)).run Tryz.prog w = .ok () w' ∧ w.mapTurned w' (mb q) ∧ DkM w' db mb (updQ B q a g) (updQ C q a c) (fun k => G k ∨ k = g) (setD d q (putB (sideD d q) a p)) := by
  have hs2 := h.s2
  obtain ⟨w', hrun, hm, ht⟩ := (h.mp q).store keyed_int under_map (by unfold maxLen; omega) (key_int ha) h0 h1 (.slice (some ⟨g, 0, none⟩) p.length c)
  refine ⟨w', hrun, ht, h.turned ht _ (fun k => Or.inl) (fun k hk => ?_) (hm.congr fun x => (valI_put _ B C q a g c p x).symm) (fun r e x => updQ_ne B (fun h => e h.1) g) (fun r e x => updQ_ne C (fun h => e h.1) c) ((h.ins q).put h0 h1 hp.1 hp.2) (fun x p' hx => ?_)⟩
  · rcases hk with hk | rfl
    · exact h.lt k hk
    · exact (owns_at hr).2
  · unfold putB at hx
    by_cases e : x = a
    · subst e
      rw [if_pos rfl] at hx
      cases hx
      rw [updQ_at, updQ_at]
      exact ⟨Or.inr rfl, hr⟩
    · rw [if_neg e] at hx
      rw [updQ_ne B (fun h => e h.2), updQ_ne C (fun h => e h.2)]
      exact ⟨Or.inl (h.gb q x p' hx), h.row q x p' hx⟩
/-- 'clear(m)' -/
theorem DkM.clear (h : DkM w db mb B C G d) (q : Bool) (ty : TypeId) :
    ∃ w', (Builtin.clear_ #[119] ty #[.map (some (mb q))]).run Tryz.prog w = .ok (.tuple #[]) w' ∧ w.mapTurned w' (mb q) ∧ DkM w' db mb B C G (setD d q noneI) := by
  obtain ⟨w', hrun, hm, ht⟩ := (h.mp q).clear under_map ty
  exact ⟨w', hrun, ht, h.turned ht G (fun k => id) h.lt (hm.congr fun x => rfl) (fun r e x => rfl) (fun r e x => rfl) (InS.none _) (fun x p' hx => by cases hx)⟩
/-- 'v, ok := m[a]' -/
theorem DkM.look_ok (h : DkM w db mb B C G d) (q : Bool) {a : Int} (ha : (Lit.int .i64 a).wf = true) :
    (Instr.lookup 119 (.map (some (mb q))) (.int .i64 a) true).run Tryz.prog w = .ok (.tuple #[(valI (sideD d q) (B q) (C q) a).getD (.slice none 0 0), .bool (valI (sideD d q) (B q) (C q) a).isSome]) w :=
  (h.mp q).look_ok keyed_int under_map (zero_bytes w) (key_int ha)
theorem DkM.look (h : DkM w db mb B C G d) (q : Bool) {a : Int} (ha : (Lit.int .i64 a).wf = true) :
    (Instr.lookup 119 (.map (some (mb q))) (.int .i64 a) false).run Tryz.prog w = .ok ((valI (sideD d q) (B q) (C q) a).getD (.slice none 0 0)) w :=
  (h.mp q).look keyed_int under_map (zero_bytes w) (key_int ha)
end
end Go.Proofs.YtddnfhfangfgeaaGreat.Gf

namespace Go.Proofs.YtddnfhfangfgeaaGreat.Gf
set_option linter.unusedVariables false
set_option linter.unusedSimpArgs false
open Go.RowKit
open Go.Maps (Keyed)
theorem dref_any {w : World} {db : Nat} {x : Bool} (c1 : w.cell? ⟨db, 1, none⟩ = some (.bool x)) : Calls Tryz.prog 131 #[.pointer (some ⟨db, 0, none⟩)] w fun e w' => e = .returned (.int .i64 (if x = true then 120 else 0)) ∧ w' = w := by
  cases x
  · go_enter Tryz.func131, Tryz.ntmps131
    go_wp2
    go_ret
    exact ⟨rfl, rfl⟩
  · go_enter Tryz.func131, Tryz.ntmps131
    go_wp2
    go_ret
    exact ⟨rfl, rfl⟩
theorem drat_any {w : World} {db : Nat} {d : DkS} {a : Int} (c0 : w.cell? ⟨db, 0, none⟩ = some (.int .i64 (d.s : Int))) (c1 : w.cell? ⟨db, 1, none⟩ = some (.bool d.dead)) : Calls Tryz.prog 91 #[.pointer (some ⟨db, 0, none⟩), .int .i64 a] w fun e w' => e = .returned (.int .i64 (faX d a)) ∧ w' = w := by
  have K := @dref_any w db d.dead c1
  cases hd : d.dead with
  | true =>
    have e := faX_dead hd a
    rw [hd] at K
    simp only [if_true] at K
    rw [e]
    clear e
    go_enter Tryz.func91, Tryz.ntmps91
    go_wp2_with fail
    refine K.mono ?_
    rintro _ _ ⟨rfl, rfl⟩
    go_wp2
    go_ret
    exact ⟨rfl, rfl⟩
  | false =>
    rw [hd] at K
    simp only [Bool.false_eq_true, if_false] at K
    by_cases h0 : 0 ≤ a
    · have h0' : ¬ a < 0 := by omega
      by_cases h1 : a < (d.s : Int)
      · have e := faX_ok hd ⟨h0, h1⟩
        have h1' : ¬ a ≥ (d.s : Int) := by omega
        rw [e]
        clear e
        go_enter Tryz.func91, Tryz.ntmps91
        go_wp2_with fail
        refine K.mono ?_
        rintro _ _ ⟨rfl, rfl⟩
        go_wp2
        go_ret
        exact ⟨rfl, rfl⟩
      · have e := faX_out hd (a := a) (fun h => h1 h.2)
        have h1' : a ≥ (d.s : Int) := by omega
        rw [e]
        clear e
        go_enter Tryz.func91, Tryz.ntmps91
        go_wp2_with fail
        refine K.mono ?_
        rintro _ _ ⟨rfl, rfl⟩
        go_wp2
        go_ret
        exact ⟨rfl, rfl⟩
    · have e := faX_out hd (a := a) (fun h => h0 h.1)
      have h0' : a < 0 := by omega
      rw [e]
      clear e
      go_enter Tryz.func91, Tryz.ntmps91
      go_wp2_with fail
      refine K.mono ?_
      rintro _ _ ⟨rfl, rfl⟩
      go_wp2
      go_ret
      exact ⟨rfl, rfl⟩
theorem ddead_any {w : World} {db : Nat} {x : Bool} (c1 : w.cell? ⟨db, 1, none⟩ = some (.bool x)) : Calls Tryz.prog 83 #[.pointer (some ⟨db, 0, none⟩)] w fun e w' => e = .returned (.bool x) ∧ w' = w := by
  go_enter Tryz.func83, Tryz.ntmps83
  go_wp2
  go_ret
  exact ⟨rfl, rfl⟩
/-- what Read tells of a place, in the disk's own memory -/
def newV (d : DkS) (B C : Bool → Int → Nat) (a : Int) : Value := match d.wait a with | some p => .slice (some ⟨B true a, 0, none⟩) p.length (C true a) | none => (valI d.last (B false) (C false) a).getD (.slice none 0 0)
section
variable {w : World} {db : Nat} {mb : Bool → Nat} {B C : Bool → Int → Nat} {G : Nat → Prop} {d : DkS}
theorem dnew_any (h : DkM w db mb B C G d) {a : Int} (ha : (Lit.int .i64 a).wf = true) : Calls Tryz.prog 92 #[.pointer (some ⟨db, 0, none⟩), .int .i64 a] w fun e w' => e = .returned (newV d B C a) ∧ w' = w := by
  have c2 := h.c2
  have c3 := h.c3
  have L1 := h.look_ok true ha
  have L2 := h.look false ha
  have e1 : sideD d true = d.wait := rfl
  have e2 : sideD d false = d.last := rfl
  rw [e1] at L1
  rw [e2] at L2
  clear e1 e2
  unfold newV
  cases hw : d.wait a with
  | some p =>
    have e3 : valI d.wait (B true) (C true) a = some (.slice (some ⟨B true a, 0, none⟩) p.length (C true a)) := by unfold valI; rw [hw]; rfl
    rw [e3] at L1
    simp only [Option.getD_some, Option.isSome_some] at L1
    clear e3 hw h ha
    go_enter Tryz.func92, Tryz.ntmps92
    go_wp2
    go_ret
    exact ⟨rfl, rfl⟩
  | none =>
    have e3 : valI d.wait (B true) (C true) a = none := by unfold valI; rw [hw]; rfl
    rw [e3] at L1
    simp only [Option.getD_none, Option.isSome_none] at L1
    clear e3 hw h ha
    obtain ⟨v, hv⟩ : ∃ v, v = (valI d.last (B false) (C false) a).getD (.slice none 0 0) := ⟨_, rfl⟩
    simp only
    rw [← hv] at L2 ⊢
    clear hv
    go_enter Tryz.func92, Tryz.ntmps92
    go_wp2
    go_ret
    exact ⟨rfl, rfl⟩
theorem demp_any (h : DkM w db mb B C G d) {w1 w2 : World}
    (r1 : (Builtin.clear_ #[119] 0 #[.map (some (mb false))]).run Tryz.prog w = .ok (.tuple #[]) w1) (t1 : w.mapTurned w1 (mb false))
    (r2 : (Builtin.clear_ #[119] 0 #[.map (some (mb true))]).run Tryz.prog w1 = .ok (.tuple #[]) w2) :
    Calls Tryz.prog 90 #[.pointer (some ⟨db, 0, none⟩)] w fun e w' => e = .returned (.tuple #[]) ∧ w' = w2 := by
  have c2 := h.c2
  have c3 := h.c3
  have c3b := (World.cell?_of_block (w := w) (a := ⟨db, 3, none⟩) (mapTurned_block t1 (h.db_ne false))).trans h.c3
  clear h t1
  go_enter Tryz.func90, Tryz.ntmps90
  go_wp2
  go_end0
  exact ⟨rfl, rfl⟩
end
end Go.Proofs.YtddnfhfangfgeaaGreat.Gf
