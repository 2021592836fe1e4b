/- TEXTS JOINED: VoCm, VoBx, VoCA. -/
import Derived.Test.YtgahaebfgmbckaaGreatTome28
import Derived.Test.YtgahaebfgmbckaaGreatTome9
namespace Go.Proofs.YtgahaebfgmbckaaGreat.Gf
set_option linter.unusedVariables false
set_option linter.unusedSimpArgs false
/-- what a disk says, as a record: does it speak (of something or of nothing), has it something, which -/
structure RpS where
  sp : Bool
  has : Bool
  ep : Int
  da : List UInt8
def rpN : RpS := ⟨false, false, 0, []⟩
def rpS (s : SaS) : RpS := ⟨s.is || s.no, s.is, if s.is = true then s.ep else 0, if s.is = true then s.da else []⟩
def heS (ad : Int) (p : List UInt8) : RpS := if p = [] then ⟨true, false, 0, []⟩ else if upX ad p = 0 then ⟨true, true, ((upN ad p : Nat) : Int), upD ad p⟩ else rpN
theorem upX_nil {ad : Int} : ¬ upX ad [] = 0 := fun h => by
  have := (upX_iff.1 h).1
  simp at this
theorem rp_hear {a : ArS} {ad : Int} {i : Nat} (h : rdAX a (i : Int) ad = 0) : rpS (sayV a ad i) = heS ad (rdAB a (i : Int) ad) := by
  unfold rpS heS sayV
  simp only [h, true_and]
  by_cases h1 : rdAB a (i : Int) ad = []
  · rw [if_pos h1, h1, decide_eq_false upX_nil]
    rfl
  · rw [if_neg h1, decide_eq_false h1]
    by_cases h2 : upX ad (rdAB a (i : Int) ad) = 0
    · rw [if_pos h2, decide_eq_true h2]; rfl
    · rw [if_neg h2, decide_eq_false h2]; rfl
theorem rp_none {a : ArS} {ad : Int} {i : Nat} (h : ¬ rdAX a (i : Int) ad = 0) : rpS (sayV a ad i) = rpN := by
  unfold rpS sayV
  simp only [h, false_and, decide_false]
  rfl
/-- is it just that? -/
theorem rp_is {s : SaS} {e : Int} {d : List UInt8} : ((rpS s).sp = true ∧ (rpS s).has = true ∧ (rpS s).ep = e ∧ (rpS s).da = d) ↔ isV s e d = true := by
  rw [isV_iff]
  unfold rpS
  cases s.is
  · simp
  · simp
theorem rp_has {s : SaS} : (rpS s).has = s.is := rfl
section
variable {a : ArS} {ad : Int} {b : List UInt8}
/-- writes to the first r of a list of disks -/
def puW (a : ArS) (ad : Int) (b : List UInt8) (l : List Nat) : Nat → PuS
  | 0 => ⟨false, 0, a⟩
  | r + 1 => if (puW a ad b l r).cr = true then puW a ad b l r else if wrAX (puW a ad b l r).st ((l.getD r 0 : Nat) : Int) ad b = 130 then ⟨true, (puW a ad b l r).n, (puW a ad b l r).st⟩ else ⟨false, (puW a ad b l r).n + (if wrAX (puW a ad b l r).st ((l.getD r 0 : Nat) : Int) ad b = 0 then 1 else 0), wrAS (puW a ad b l r).st ((l.getD r 0 : Nat) : Int) ad b⟩
theorem puW_ap {l m : List Nat} : ∀ r, r ≤ l.length → puW a ad b (l ++ m) r = puW a ad b l r
  | 0, _ => rfl
  | r + 1, h => by
    have e : (l ++ m).getD r 0 = l.getD r 0 := by simp [List.getD, List.getElem?_append_left (show r < l.length by omega)]
    rw [puW, puW, puW_ap r (by omega), e]
theorem puW_to {tO : Nat → Bool} : ∀ n, puV a ad b tO n = puW a ad b ((List.range n).filter tO) ((List.range n).filter tO).length
  | 0 => rfl
  | n + 1 => by
    have ih := puW_to (tO := tO) n
    rw [List.range_succ, List.filter_append]
    by_cases h : tO n = true
    · have e1 : [n].filter tO = [n] := by simp [h]
      rw [e1, List.length_append, List.length_singleton, puW, puW_ap _ (Nat.le_refl _), ← ih, puV, if_pos h]
      have e2 : ((List.range n).filter tO ++ [n]).getD ((List.range n).filter tO).length 0 = n := by simp [List.getD]
      rw [e2]
    · have e1 : [n].filter tO = [] := by simp [h]
      rw [e1, List.append_nil, puV, if_neg h, ← ih]
      split <;> rfl
theorem range_all {n : Nat} : (List.range n).filter (fun _ => true) = List.range n := by simp
/-- what each of these writes answers -/
def wxW (a : ArS) (ad : Int) (b : List UInt8) (l : List Nat) (r : Nat) : Int := wrAX (puW a ad b l r).st ((l.getD r 0 : Nat) : Int) ad b
theorem puW_calm {l : List Nat} : ∀ r, (∀ i, i < r → ¬ wxW a ad b l i = 130) → (puW a ad b l r).cr = false ∧ (puW a ad b l r).n = cnt (fun i => decide (wxW a ad b l i = 0)) r
  | 0, _ => ⟨rfl, rfl⟩
  | r + 1, h => by
    obtain ⟨h1, h2⟩ := puW_calm r fun i hi => h i (by omega)
    have hx : ¬ wrAX (puW a ad b l r).st ((l.getD r 0 : Nat) : Int) ad b = 130 := h r (by omega)
    rw [puW, if_neg (by rw [h1]; decide), if_neg hx]
    refine ⟨rfl, ?_⟩
    show (puW a ad b l r).n + _ = _
    rw [h2]
    by_cases q : wrAX (puW a ad b l r).st ((l.getD r 0 : Nat) : Int) ad b = 0
    · rw [if_pos q, cnt_yes (decide_eq_true q)]
    · rw [if_neg q, cnt_not (decide_eq_false q), Nat.add_zero]
theorem puW_go {l : List Nat} {r : Nat} (h1 : (puW a ad b l r).cr = false) (hx : ¬ wxW a ad b l r = 130) : (puW a ad b l (r + 1)).cr = false ∧ (puW a ad b l (r + 1)).st = wrAS (puW a ad b l r).st ((l.getD r 0 : Nat) : Int) ad b := by
  rw [puW, if_neg (by rw [h1]; decide), if_neg (show ¬ wrAX (puW a ad b l r).st ((l.getD r 0 : Nat) : Int) ad b = 130 from hx)]
  exact ⟨rfl, rfl⟩
theorem puW_crash {l : List Nat} {r n : Nat} (h : ∀ i, i < r → ¬ wxW a ad b l i = 130) (hx : wxW a ad b l r = 130) (hr : r < n) : (puW a ad b l n).cr = true ∧ (puW a ad b l n).st = (puW a ad b l r).st := by
  have h1 := (puW_calm r h).1
  obtain ⟨k, rfl⟩ := Nat.exists_eq_add_of_lt hr
  have key : ∀ k, puW a ad b l (r + k + 1) = ⟨true, (puW a ad b l r).n, (puW a ad b l r).st⟩ := by
    intro k
    induction k with
    | zero =>
      show puW a ad b l (r + 1) = _
      rw [puW, if_neg (by rw [h1]; decide), if_pos (show wrAX (puW a ad b l r).st ((l.getD r 0 : Nat) : Int) ad b = 130 from hx)]
    | succ k ih =>
      rw [puW, show r + (k + 1) = r + k + 1 by omega, ih]
      rfl
  rw [key k]
  exact ⟨rfl, rfl⟩
theorem puW_st {l : List Nat} {r : Nat} (hx : wxW a ad b l r = 130) : wrAS (puW a ad b l r).st ((l.getD r 0 : Nat) : Int) ad b = (puW a ad b l r).st := if_pos (wrAX_crash.1 hx)
end
/-- how many of the first r of what is said are just that -/
def cpR (S : List SaS) (r : Nat) (e : Int) (d : List UInt8) : Nat := cnt (fun i => isV (sF S i) e d) r
theorem cpR_step {S : List SaS} {r : Nat} {e : Int} {d : List UInt8} : cpR S (r + 1) e d = cpR S r e d + (if isV (sF S r) e d = true then 1 else 0) := by
  unfold cpR
  by_cases h : isV (sF S r) e d = true
  · rw [if_pos h, cnt_yes h]
  · rw [if_neg h, cnt_not (by simpa using h), Nat.add_zero]
theorem cpR_pos {S : List SaS} {r : Nat} {e : Int} {d : List UInt8} : 0 < cpR S r e d ↔ ∃ i, i < r ∧ isV (sF S i) e d = true := by
  induction r with
  | zero => exact ⟨fun h => absurd h (by simp [cpR, cnt]), fun ⟨i, h, _⟩ => absurd h (by omega)⟩
  | succ r ih =>
    rw [cpR_step]
    constructor
    · intro h
      by_cases q : isV (sF S r) e d = true
      · exact ⟨r, by omega, q⟩
      · rw [if_neg q] at h
        obtain ⟨i, h1, h2⟩ := ih.1 (by omega)
        exact ⟨i, by omega, h2⟩
    · rintro ⟨i, h1, h2⟩
      by_cases e1 : i = r
      · subst e1; rw [if_pos h2]; omega
      · have := ih.2 ⟨i, by omega, h2⟩
        omega
/-- an election under way: 'left e d' is to come yet; e0, n0, d0 are the best till now -/
structure Elec (S : List SaS) (left : Int → List UInt8 → Prop) (e0 : Int) (n0 : Nat) (d0 : List UInt8) : Prop where
  who : (e0 = 0 ∧ n0 = 0 ∧ d0 = [] ∧ ∀ e d, 0 < cpV S e d → left e d) ∨ (0 < cpV S e0 d0 ∧ n0 = cpV S e0 d0)
  best : ∀ e d, 0 < cpV S e d → ¬ left e d → ¬ Gt17 e (cpV S e d) d e0 n0 d0
theorem Elec.start (S : List SaS) : Elec S (fun e d => 0 < cpV S e d) 0 0 [] := ⟨Or.inl ⟨rfl, rfl, rfl, fun e d h => h⟩, fun e d h hn => absurd h hn⟩
theorem Elec.take {S : List SaS} {left left' : Int → List UInt8 → Prop} {e0 e : Int} {n0 : Nat} {d0 d : List UInt8} (h : Elec S left e0 n0 d0) (hp : 0 < cpV S e d) (hl : ∀ x y, left' x y ↔ (left x y ∧ ¬ (x = e ∧ y = d))) (hg : Gt17 e (cpV S e d) d e0 n0 d0) : Elec S left' e (cpV S e d) d := by
  refine ⟨Or.inr ⟨hp, rfl⟩, fun x y hx hn => ?_⟩
  by_cases q : x = e ∧ y = d
  · rw [q.1, q.2]; exact gt_irr
  · have : ¬ left x y := fun k => hn ((hl x y).2 ⟨k, q⟩)
    exact fun g => h.best x y hx this (gt_trans g hg)
theorem Elec.pass {S : List SaS} {left left' : Int → List UInt8 → Prop} {e0 e : Int} {n0 : Nat} {d0 d : List UInt8} (h : Elec S left e0 n0 d0) (hp : 0 < cpV S e d) (h0 : 0 ≤ e) (hl : ∀ x y, left' x y ↔ (left x y ∧ ¬ (x = e ∧ y = d))) (hg : ¬ Gt17 e (cpV S e d) d e0 n0 d0) : Elec S left' e0 n0 d0 := by
  refine ⟨?_, fun x y hx hn => ?_⟩
  · rcases h.who with ⟨rfl, rfl, rfl, _⟩ | k
    · exfalso
      apply hg
      by_cases q : e = 0
      · exact Or.inr ⟨q, Or.inl hp⟩
      · exact Or.inl (by omega)
    · exact Or.inr k
  · by_cases q : x = e ∧ y = d
    · rw [q.1, q.2]; exact hg
    · exact h.best x y hx fun k => hn ((hl x y).2 ⟨k, q⟩)
/-- what is elected -/
def elE (S : List SaS) : Int := (votS S []).ep
def elD (S : List SaS) : List UInt8 := (votS S []).da
def elN (S : List SaS) : Nat := (votS S []).co
theorem Elec.done {S : List SaS} {left : Int → List UInt8 → Prop} {e0 : Int} {n0 : Nat} {d0 : List UInt8} (h : Elec S left e0 n0 d0) (hl : ∀ e d, ¬ left e d) : e0 = elE S ∧ n0 = elN S ∧ d0 = elD S := by
  unfold elE elN elD
  rcases h.who with ⟨rfl, rfl, rfl, k⟩ | ⟨hp, rfl⟩
  · have : ∀ i, i < S.length → (sF S i).is = false := fun i hi => by
      cases q : (sF S i).is with
      | false => rfl
      | true => exact absurd (k (sF S i).ep (sF S i).da (cpR_pos.2 ⟨i, hi, isV_iff.2 ⟨q, rfl, rfl⟩⟩)) (hl _ _)
    rw [vo_none this []]
    exact ⟨rfl, rfl, rfl⟩
  · have ht : Top S S.length e0 d0 := by
      refine ⟨?_, fun j hj hs => ?_⟩
      · obtain ⟨i, hi, hv⟩ := cpR_pos.1 hp
        exact ⟨i, hi, hv⟩
      · exact h.best _ _ (cpR_pos.2 ⟨j, hj, isV_iff.2 ⟨hs, rfl, rfl⟩⟩) (hl _ _)
    rw [vo_top ht []]
    exact ⟨rfl, rfl, rfl⟩
theorem vot_same (S : List SaS) (K : List Bool) : votS S K = ⟨(votS S []).has, elE S, elD S, elN S, wiF S K S.length⟩ := by
  unfold elE elN elD
  rcases vo_or S with h | ⟨e, d, h⟩
  · rw [vo_none h K, vo_none h []]
  · rw [vo_top h K, vo_top h []]
theorem el_has (S : List SaS) (K : List Bool) : (votS S K).has = decide (0 < elN S) := by
  unfold elN
  rcases vo_or S with h | ⟨e, d, h⟩
  · rw [vo_none h K, vo_none h []]; rfl
  · rw [vo_top h K, vo_top h []]
    obtain ⟨i, hi, hv⟩ := h.one
    exact (decide_eq_true (show 0 < cpV S e d from cpR_pos.2 ⟨i, hi, hv⟩)).symm
end Go.Proofs.YtgahaebfgmbckaaGreat.Gf

namespace Go.Proofs.YtgahaebfgmbckaaGreat.Gf
set_option linter.unusedVariables false
set_option linter.unusedSimpArgs false
open Go.RowKit
def aggV (v : VoS) (vd : Value) : Value := .agg #[.bool v.has, .int .i64 v.ep, vd, .int .i64 ((v.co : Nat) : Int), .bool v.wi]
structure BoxV (w1 : World) (g : Nat) (wr : World) (v : VoS) (vd : Value) : Prop where
  c0 : wr.cell? ⟨g, 0, none⟩ = some (.bool v.has)
  c1 : wr.cell? ⟨g, 1, none⟩ = some (.int .i64 v.ep)
  c2 : wr.cell? ⟨g, 2, none⟩ = some vd
  c3 : wr.cell? ⟨g, 3, none⟩ = some (.int .i64 ((v.co : Nat) : Int))
  c4 : wr.cell? ⟨g, 4, none⟩ = some (.bool v.wi)
  fz : ∀ j, wr.frozen? ⟨g, j, none⟩ = false
  on : Only g w1 wr
section
variable {w1 wr : World} {g : Nat} {v : VoS} {vd : Value}
theorem cell_setO {w : World} {g i j : Nat} {u : Value} (h : i ≠ j) : (w.setCell ⟨g, i, none⟩ u).cell? ⟨g, j, none⟩ = w.cell? ⟨g, j, none⟩ := World.cell?_setCell_other _ _ _ _ (by first | (simp; done) | (simp; omega))
theorem BoxV.drewN (h : BoxV w1 g wr v vd) (n : Nat) : BoxV w1 g (wr.drewN n) v vd := ⟨h.c0, h.c1, h.c2, h.c3, h.c4, h.fz, h.on.drewN n⟩
theorem BoxV.wi (h : BoxV w1 g wr v vd) (x : Bool) : BoxV w1 g (wr.setCell ⟨g, 4, none⟩ (.bool x)) { v with wi := x } vd :=
  ⟨(cell_setO (by decide)).trans h.c0, (cell_setO (by decide)).trans h.c1, (cell_setO (by decide)).trans h.c2, (cell_setO (by decide)).trans h.c3, World.cell?_setCell_same _ _ _ h.c4, fun j => (World.frozen?_setCell _ _ _ _).trans (h.fz j), h.on.setCell _ _⟩
theorem BoxV.put (h : BoxV w1 g wr v vd) (e : Int) (u : Value) (n : Nat) (d : List UInt8) : BoxV w1 g ((((wr.setCell ⟨g, 0, none⟩ (.bool true)).setCell ⟨g, 1, none⟩ (.int .i64 e)).setCell ⟨g, 2, none⟩ u).setCell ⟨g, 3, none⟩ (.int .i64 ((n : Nat) : Int))) ⟨true, e, d, n, v.wi⟩ u := by
  refine ⟨?_, ?_, ?_, ?_, ?_, fun j => ?_, (((h.on.setCell _ _).setCell _ _).setCell _ _).setCell _ _⟩
  · rw [cell_setO (by decide), cell_setO (by decide), cell_setO (by decide), World.cell?_setCell_same _ _ _ h.c0]
  · rw [cell_setO (by decide), cell_setO (by decide), World.cell?_setCell_same _ _ _ ((cell_setO (by decide)).trans h.c1)]
  · rw [cell_setO (by decide), World.cell?_setCell_same _ _ _ ((cell_setO (by decide)).trans ((cell_setO (by decide)).trans h.c2))]
  · rw [World.cell?_setCell_same _ _ _ ((cell_setO (by decide)).trans ((cell_setO (by decide)).trans ((cell_setO (by decide)).trans h.c3)))]
  · rw [cell_setO (by decide), cell_setO (by decide), cell_setO (by decide), cell_setO (by decide), h.c4]
  · rw [World.frozen?_setCell, World.frozen?_setCell, World.frozen?_setCell, World.frozen?_setCell, h.fz]
theorem set5 {w : World} {g : Nat} {a b c d e x0 x1 x2 x3 x4 : Value} (m0 : w.cell? ⟨g, 0, none⟩ = some x0) (m1 : w.cell? ⟨g, 1, none⟩ = some x1) (m2 : w.cell? ⟨g, 2, none⟩ = some x2) (m3 : w.cell? ⟨g, 3, none⟩ = some x3) (m4 : w.cell? ⟨g, 4, none⟩ = some x4) {W : World} (hW : W = ((((w.setCell ⟨g, 0, none⟩ a).setCell ⟨g, 1, none⟩ b).setCell ⟨g, 2, none⟩ c).setCell ⟨g, 3, none⟩ d).setCell ⟨g, 4, none⟩ e) :
    Only g w W ∧ W.cell? ⟨g, 0, none⟩ = some a ∧ W.cell? ⟨g, 1, none⟩ = some b ∧ W.cell? ⟨g, 2, none⟩ = some c ∧ W.cell? ⟨g, 3, none⟩ = some d ∧ W.cell? ⟨g, 4, none⟩ = some e := by
  subst hW
  refine ⟨(((((Only.refl _ _).setCell _ _).setCell _ _).setCell _ _).setCell _ _).setCell _ _, ?_, ?_, ?_, ?_, ?_⟩
  · rw [cell_setO (by decide), cell_setO (by decide), cell_setO (by decide), cell_setO (by decide), World.cell?_setCell_same _ _ _ m0]
  · rw [cell_setO (by decide), cell_setO (by decide), cell_setO (by decide), World.cell?_setCell_same _ _ _ ((cell_setO (by decide)).trans m1)]
  · rw [cell_setO (by decide), cell_setO (by decide), World.cell?_setCell_same _ _ _ ((cell_setO (by decide)).trans ((cell_setO (by decide)).trans m2))]
  · rw [cell_setO (by decide), World.cell?_setCell_same _ _ _ ((cell_setO (by decide)).trans ((cell_setO (by decide)).trans ((cell_setO (by decide)).trans m3)))]
  · exact World.cell?_setCell_same _ _ _ ((cell_setO (by decide)).trans ((cell_setO (by decide)).trans ((cell_setO (by decide)).trans ((cell_setO (by decide)).trans m4))))
theorem BoxV.made (w : World) (h : g = w.heap.size) : BoxV (w.alloc (.cells #[.bool false, .int .i64 0, .slice none 0 0, .int .i64 0, .bool false] 45)) g (w.alloc (.cells #[.bool false, .int .i64 0, .slice none 0 0, .int .i64 0, .bool false] 45)) noV (.slice none 0 0) := by
  subst h
  have c : ∀ j, (w.alloc (.cells #[.bool false, .int .i64 0, .slice none 0 0, .int .i64 0, .bool false] 45)).cell? ⟨w.heap.size, j, none⟩ = #[Value.bool false, .int .i64 0, .slice none 0 0, .int .i64 0, .bool false][j]? := fun j => World.cell?_alloc_new _ _ _ _
  exact ⟨c 0, c 1, c 2, c 3, c 4, fun j => by simp [go_sem], Only.refl _ _⟩
end
end Go.Proofs.YtgahaebfgmbckaaGreat.Gf

namespace Go.Proofs.YtgahaebfgmbckaaGreat.Gf
set_option linter.unusedVariables false
set_option linter.unusedSimpArgs false
open Go.RowKit
/-- how two integers lie to each other -/
def cmI (x y : Int) : Int := if x < y then -1 else if y < x then 1 else 0
def cmS (a b : List UInt8) : Int := if Op.bytesLess a b = true then -1 else if Op.bytesLess b a = true then 1 else 0
/-- the first one that is not 0 -/
def orL (zs : List Int) : Int := (zs.find? fun z => z != 0).getD 0
theorem cm_gt {e e0 : Int} {n n0 : Nat} {d d0 : List UInt8} : 0 < orL [cmI e e0, cmI (n : Int) (n0 : Int), cmS d0 d] ↔ Gt17 e n d e0 n0 d0 := by
  unfold orL cmI cmS Gt17
  by_cases h1 : e < e0
  · simp [h1]
    omega
  by_cases h2 : e0 < e
  · simp [h1, h2]
  have he : e = e0 := by omega
  subst he
  by_cases h3 : n < n0
  · have h3' : (n : Int) < (n0 : Int) := by omega
    simp [h3']
    omega
  by_cases h4 : n0 < n
  · have h4' : (n0 : Int) < (n : Int) := by omega
    have h3' : ¬ (n : Int) < (n0 : Int) := by omega
    simp [h3', h4', h4]
  have hn : n = n0 := by omega
  subst hn
  have hnn : ¬ (n : Int) < (n : Int) := by omega
  cases h5 : Op.bytesLess d0 d with
  | true =>
    have : Op.bytesLess d d0 = false := by
      cases h6 : Op.bytesLess d d0 with
      | false => rfl
      | true => have := less_trans h5 h6; rw [less_irr] at this; cases this
    simp [this]
  | false =>
    cases h6 : Op.bytesLess d d0 with
    | true => simp
    | false => simp
theorem nan_i {x : Int} {w : World} : Calls Tryz.prog 96 #[.int .i64 x] w fun e w' => e = .returned (.bool false) ∧ w' = w := by
  go_enter Tryz.func96, Tryz.ntmps96
  go_wp2
  go_ret
  exact ⟨rfl, rfl⟩
theorem nan_s {s : ByteArray} {w : World} : Calls Tryz.prog 97 #[.string s] w fun e w' => e = .returned (.bool false) ∧ w' = w := by
  go_enter Tryz.func97, Tryz.ntmps97
  go_wp2
  go_ret
  exact ⟨rfl, rfl⟩
theorem cmp_i {x y : Int} {w : World} : Calls Tryz.prog 69 #[.int .i64 x, .int .i64 y] w fun e w' => e = .returned (.int .i64 (cmI x y)) ∧ w' = w := by
  go_enter Tryz.func69, Tryz.ntmps69
  go_wp2_with fail
  refine nan_i.mono ?_
  rintro _ w1 ⟨rfl, rfl⟩
  go_wp2_with fail
  refine nan_i.mono ?_
  rintro _ w2 ⟨rfl, rfl⟩
  by_cases h1 : x < y
  · have e : cmI x y = -1 := if_pos h1
    go_wp2
    go_ret
    exact ⟨by rw [e]; rfl, rfl⟩
  · by_cases h2 : x > y
    · have e : cmI x y = 1 := by unfold cmI; rw [if_neg h1, if_pos h2]
      go_wp2
      go_ret
      exact ⟨by rw [e]; rfl, rfl⟩
    · have e : cmI x y = 0 := by unfold cmI; rw [if_neg h1, if_neg h2]
      go_wp2
      go_ret
      exact ⟨by rw [e]; rfl, rfl⟩
theorem cmp_s {a b : List UInt8} {w : World} : Calls Tryz.prog 70 #[.string ⟨a.toArray⟩, .string ⟨b.toArray⟩] w fun e w' => e = .returned (.int .i64 (cmS a b)) ∧ w' = w := by
  go_enter Tryz.func70, Tryz.ntmps70
  go_wp2_with fail
  refine nan_s.mono ?_
  rintro _ w1 ⟨rfl, rfl⟩
  go_wp2_with fail
  refine nan_s.mono ?_
  rintro _ w2 ⟨rfl, rfl⟩
  cases h1 : Op.bytesLess a b with
  | true =>
    have e : cmS a b = -1 := if_pos h1
    go_wp2
    go_ret
    exact ⟨by rw [e]; rfl, rfl⟩
  | false =>
    have h1' : ¬ Op.bytesLess a b = true := by rw [h1]; decide
    cases h2 : (a == b) with
    | false =>
      have hb : Op.bytesLess b a = true := (less_or (beq_eq_false_iff_ne.1 h2)).resolve_left h1'
      have e : cmS a b = 1 := by unfold cmS; rw [if_neg h1', if_pos hb]
      clear hb
      go_wp2
      go_ret
      exact ⟨by rw [e]; rfl, rfl⟩
    | true =>
      obtain rfl := eq_of_beq h2
      have e : cmS a a = 0 := by unfold cmS; rw [if_neg h1', if_neg h1']
      go_wp2
      go_ret
      exact ⟨by rw [e]; rfl, rfl⟩
theorem orL_at {zs : List Int} {k : Nat} (h : ∀ j, j < k → zs.getD j 0 = 0) (hk : k < zs.length) (hz : ¬ zs.getD k 0 = 0) : orL zs = zs.getD k 0 := by
  unfold orL
  induction zs generalizing k with
  | nil => simp at hk
  | cons z zs ih =>
    rcases k with _ | k
    · have hz' : ¬ z = 0 := by simpa using hz
      simp [hz']
    · have h0 : z = 0 := by simpa using h 0 (by omega)
      have e := ih (k := k) (fun j hj => by simpa using h (j + 1) (by omega)) (by simpa using hk) (by simpa using hz)
      simp [h0]
      simpa using e
theorem orL_no {zs : List Int} (h : ∀ j, j < zs.length → zs.getD j 0 = 0) : orL zs = 0 := by
  unfold orL
  induction zs with
  | nil => rfl
  | cons z zs ih =>
    have h0 : z = 0 := by simpa using h 0 (by simp)
    have e := ih fun j hj => by simpa using h (j + 1) (by simp; omega)
    simp [h0]
    simpa using e
theorem or_any {v : Value} {zs : List Int} {w : World} (h : RdI w v zs) (hl : zs.length ≤ 100000) : Calls Tryz.prog 68 #[v] w fun e w' => e = .returned (.int .i64 (orL zs)) ∧ w' = w := by
  obtain ⟨a, c, rfl⟩ := h.form
  go_enter Tryz.func68, Tryz.ntmps68
  go_wp2
  go_loopw [8] (fun i wr => ∃ k : Nat, k ≤ zs.length ∧ i = .int .i64 (k : Int) ∧ wr = w ∧ Hid (∀ j, j < k → zs.getD j 0 = 0)) (fun i _ => zs.length - (intOf i).toNat)
  case atStart => exact ⟨0, Nat.zero_le _, rfl, rfl, fun j hj => by omega⟩
  case round =>
    obtain ⟨k, hk, rfl, rfl, hj⟩ := hrel
    by_cases hlt : k < zs.length
    · have hlt' : (k : Int) < (zs.length : Int) := by omega
      obtain ⟨b, off, rfl, hb, hc⟩ := h.at hlt
      obtain ⟨z, hz⟩ : ∃ z, Hid (z = zs.getD k 0) := ⟨_, rfl⟩
      rw [← hz.out] at hc
      by_cases hz0 : z = 0
      · subst hz0
        have J2 : Hid (∀ j, j < k + 1 → zs.getD j 0 = 0) := fun j hj2 => by
          by_cases e : j = k
          · rw [e]; exact hz.out.symm
          · exact hj.out j (by omega)
        clear hj h
        go_wp2
        go_roundw
        case rel => exact ⟨k + 1, by omega, by go_num, by first | rfl | trivial, J2⟩
        case measure => simp [intOf]; omega
      · have q : (z == 0) = false := beq_eq_false_iff_ne.2 hz0
        have q2 : (z != 0) = true := by rw [bne, q]; rfl
        have E : Hid (orL zs = z) := (orL_at hj.out hlt (by rw [← hz.out]; exact hz0)).trans hz.out.symm
        clear hj h
        go_wp2
        go_ret
        exact ⟨by rw [E.out]; rfl, rfl⟩
    · obtain rfl : k = zs.length := by omega
      have hge : ¬ (zs.length : Int) < (zs.length : Int) := by omega
      have E : Hid (orL zs = 0) := orL_no hj.out
      clear hj h
      go_wp2
      go_ret
      exact ⟨by rw [E.out]; rfl, rfl⟩
/-- a reply, as a value -/
def agRp (r : RpS) : Value := .agg #[.bool r.sp, .bool r.has, .int .i64 r.ep, .string ⟨r.da.toArray⟩]
theorem lay4 {w W : World} {a b c d : Value} {t g : Nat} (hg : g = w.heap.size) (hW : W = w.alloc (.cells #[a, b, c, d] t)) : W.cell? ⟨g, 0, none⟩ = some a ∧ W.cell? ⟨g, 1, none⟩ = some b ∧ W.cell? ⟨g, 2, none⟩ = some c ∧ W.cell? ⟨g, 3, none⟩ = some d ∧ Below w.heap.size w W := by
  subst hg hW
  have z : ∀ j, (w.alloc (.cells #[a, b, c, d] t)).cell? ⟨w.heap.size, j, none⟩ = #[a, b, c, d][j]? := fun j => World.cell?_alloc_new _ _ _ _
  exact ⟨z 0, z 1, z 2, z 3, belR _ _⟩
theorem saying_any {e : Int} {d : List UInt8} {w : World} : Calls Tryz.prog 72 #[.agg #[.int .i64 e, .string ⟨d.toArray⟩]] w fun x w' => x = .returned (.agg #[.bool true, .bool true, .int .i64 e, .string ⟨d.toArray⟩]) ∧ Below w.heap.size w w' := by
  go_enter Tryz.func72, Tryz.ntmps72
  go_wp2
  obtain ⟨W, hW⟩ : ∃ W, W = (w.alloc (.cells #[.int .i64 e, .string ⟨d.toArray⟩] 87)).alloc (.cells #[.bool true, .bool true, .int .i64 e, .string ⟨d.toArray⟩] 121) := ⟨_, rfl⟩
  obtain ⟨z0, z1, z2, z3, b⟩ := lay4 (g := w.heap.size + 1) (by simp) hW
  rw [← hW]
  exact bodyPost_ret (v := .agg #[.bool true, .bool true, .int .i64 e, .string ⟨d.toArray⟩]) (by simp [results, Tryz.results72, go_sem, z0, z1, z2, z3]) rfl ⟨rfl, (belR _ _).step16 b (by simp)⟩
theorem setC4 {w : World} {g : Nat} {a b c d x0 x1 x2 x3 : Value} (m0 : w.cell? ⟨g, 0, none⟩ = some x0) (m1 : w.cell? ⟨g, 1, none⟩ = some x1) (m2 : w.cell? ⟨g, 2, none⟩ = some x2) (m3 : w.cell? ⟨g, 3, none⟩ = some x3) {W : World} (hW : W = (((w.setCell ⟨g, 0, none⟩ a).setCell ⟨g, 1, none⟩ b).setCell ⟨g, 2, none⟩ c).setCell ⟨g, 3, none⟩ d) :
    Only g w W ∧ W.cell? ⟨g, 0, none⟩ = some a ∧ W.cell? ⟨g, 1, none⟩ = some b ∧ W.cell? ⟨g, 2, none⟩ = some c ∧ W.cell? ⟨g, 3, none⟩ = some d := by
  subst hW
  refine ⟨((((Only.refl _ _).setCell _ _).setCell _ _).setCell _ _).setCell _ _, ?_, ?_, ?_, ?_⟩
  · rw [cell_setO (by decide), cell_setO (by decide), cell_setO (by decide), World.cell?_setCell_same _ _ _ m0]
  · rw [cell_setO (by decide), cell_setO (by decide), World.cell?_setCell_same _ _ _ ((cell_setO (by decide)).trans m1)]
  · rw [cell_setO (by decide), World.cell?_setCell_same _ _ _ ((cell_setO (by decide)).trans ((cell_setO (by decide)).trans m2))]
  · exact World.cell?_setCell_same _ _ _ ((cell_setO (by decide)).trans ((cell_setO (by decide)).trans ((cell_setO (by decide)).trans m3)))
set_option maxRecDepth 100000 in
set_option maxHeartbeats 1000000 in
theorem hear_any {ad : Int} {v : Value} {p : List UInt8} {w : World} (hp : Rd w v p) (hl : p.length ≤ 100000) : Calls Tryz.prog 67 #[.int .i64 ad, v] w fun x w' => x = .returned (agRp (heS ad p)) ∧ Below w.heap.size w w' := by
  obtain ⟨a, c, ev⟩ := hp.form
  subst ev
  by_cases h0 : p = []
  · subst h0
    have e : agRp (heS ad []) = .agg #[.bool true, .bool false, .int .i64 0, .string ⟨#[]⟩] := rfl
    rw [e]
    clear hp e hl
    go_enter Tryz.func67, Tryz.ntmps67
    go_wp2
    obtain ⟨W, hW⟩ : ∃ W, W = w.alloc (.cells #[.bool true, .bool false, .int .i64 0, .string ⟨#[]⟩] 121) := ⟨_, rfl⟩
    obtain ⟨z0, z1, z2, z3, b⟩ := lay4 (g := w.heap.size) rfl hW
    rw [← hW]
    exact bodyPost_ret (v := .agg #[.bool true, .bool false, .int .i64 0, .string ⟨#[]⟩]) (by simp [results, Tryz.results67, go_sem, z0, z1, z2, z3]) rfl ⟨rfl, b⟩
  · have h0' : ¬ (p.length : Int) = 0 := fun k => h0 (List.length_eq_zero_iff.1 (by omega))
    have h0'' : ((p.length : Int) == 0) = false := beq_eq_false_iff_ne.2 h0'
    obtain ⟨X, hX⟩ : ∃ X, Hid (X = upX ad p) := ⟨_, rfl⟩
    obtain ⟨N, hN⟩ : ∃ N, Hid (N = upN ad p) := ⟨_, rfl⟩
    obtain ⟨D, hD⟩ : ∃ D, Hid (D = upD ad p) := ⟨_, rfl⟩
    have E : Hid (agRp (heS ad p) = if X = 0 then agRp ⟨true, true, ((N : Nat) : Int), D⟩ else agRp rpN) := by
      show _ = _
      unfold heS
      rw [if_neg h0, hX.out, hN.out, hD.out]
      split <;> rfl
    have KU := fun W (b : Below w.heap.size w W) => sunpack_far (a := ad) (hp.below b) hl
    rw [← hX.out, ← hN.out, ← hD.out] at KU
    clear hX hN hD hp
    go_enter Tryz.func67, Tryz.ntmps67
    go_wp2_with fail
    obtain ⟨W, hW⟩ : ∃ W, W = w.alloc (.cells #[.bool false, .bool false, .int .i64 0, .string ⟨#[]⟩] 121) := ⟨_, rfl⟩
    obtain ⟨z0, z1, z2, z3, b⟩ := lay4 (g := w.heap.size) rfl hW
    have sz : w.heap.size < W.heap.size := by rw [hW]; simp
    have fz : ∀ j, W.frozen? ⟨w.heap.size, j, none⟩ = false := fun j => by rw [hW]; simp [go_sem]
    rw [← hW]
    clear hW
    refine (KU _ b).mono ?_
    rintro _ w1 ⟨u, rfl, R1, F1, B1⟩
    have CS := conv_str16 R1
    obtain ⟨ua, uc, eu⟩ := R1.form
    subst eu
    replace z0 := (B1.cell (p := ⟨w.heap.size, 0, none⟩) sz).trans z0
    replace z1 := (B1.cell (p := ⟨w.heap.size, 1, none⟩) sz).trans z1
    replace z2 := (B1.cell (p := ⟨w.heap.size, 2, none⟩) sz).trans z2
    replace z3 := (B1.cell (p := ⟨w.heap.size, 3, none⟩) sz).trans z3
    have fz1 : ∀ j, w1.frozen? ⟨w.heap.size, j, none⟩ = false := fun j => (B1.frozen (p := ⟨w.heap.size, j, none⟩) sz).trans (fz j)
    have f0 := fz1 0
    have f1 := fz1 1
    have f2 := fz1 2
    have f3 := fz1 3
    have b1 : Below w.heap.size w w1 := b.step16 B1 b.size
    have sz1 : w.heap.size < w1.heap.size := Nat.lt_of_lt_of_le sz B1.size
    clear KU R1 F1 B1 fz fz1 b sz
    by_cases q : X = 0
    · rw [if_pos q] at E
      subst q
      go_wp2_with fail
      refine saying_any.mono ?_
      rintro _ w2 ⟨rfl, B2⟩
      replace z0 := (B2.cell (p := ⟨w.heap.size, 0, none⟩) sz1).trans z0
      replace z1 := (B2.cell (p := ⟨w.heap.size, 1, none⟩) sz1).trans z1
      replace z2 := (B2.cell (p := ⟨w.heap.size, 2, none⟩) sz1).trans z2
      replace z3 := (B2.cell (p := ⟨w.heap.size, 3, none⟩) sz1).trans z3
      replace f0 := (B2.frozen (p := ⟨w.heap.size, 0, none⟩) sz1).trans f0
      replace f1 := (B2.frozen (p := ⟨w.heap.size, 1, none⟩) sz1).trans f1
      replace f2 := (B2.frozen (p := ⟨w.heap.size, 2, none⟩) sz1).trans f2
      replace f3 := (B2.frozen (p := ⟨w.heap.size, 3, none⟩) sz1).trans f3
      have b2 : Below w.heap.size w w2 := b1.step16 B2 b1.size
      clear B2 CS b1
      obtain ⟨W, hW⟩ : ∃ W, W = (((w2.setCell ⟨w.heap.size, 0, none⟩ (.bool true)).setCell ⟨w.heap.size, 1, none⟩ (.bool true)).setCell ⟨w.heap.size, 2, none⟩ (.int .i64 (N : Int))).setCell ⟨w.heap.size, 3, none⟩ (.string ⟨D.toArray⟩) := ⟨_, rfl⟩
      obtain ⟨O, n0, n1, n2, n3⟩ := setC4 z0 z1 z2 z3 hW
      go_wp2
      rw [← hW]
      exact bodyPost_ret (v := .agg #[.bool true, .bool true, .int .i64 (N : Int), .string ⟨D.toArray⟩]) (by simp [results, Tryz.results67, go_sem, n0, n1, n2, n3]) rfl ⟨by rw [E.out]; rfl, b2.trans (O.below (Nat.le_refl _))⟩
    · rw [if_neg q] at E
      have q' : (X == 0) = false := beq_eq_false_iff_ne.2 q
      obtain ⟨W, hW⟩ : ∃ W, W = (((w1.setCell ⟨w.heap.size, 0, none⟩ (.bool false)).setCell ⟨w.heap.size, 1, none⟩ (.bool false)).setCell ⟨w.heap.size, 2, none⟩ (.int .i64 0)).setCell ⟨w.heap.size, 3, none⟩ (.string ⟨#[]⟩) := ⟨_, rfl⟩
      obtain ⟨O, n0, n1, n2, n3⟩ := setC4 z0 z1 z2 z3 hW
      go_wp2
      rw [← hW]
      exact bodyPost_ret (v := .agg #[.bool false, .bool false, .int .i64 0, .string ⟨#[]⟩]) (by simp [results, Tryz.results67, go_sem, n0, n1, n2, n3]) rfl ⟨by rw [E.out]; rfl, b1.trans (O.below (Nat.le_refl _))⟩
end Go.Proofs.YtgahaebfgmbckaaGreat.Gf
