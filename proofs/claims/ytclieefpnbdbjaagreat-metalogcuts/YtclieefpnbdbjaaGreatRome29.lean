/- TEXTS JOINED: VoCm, VoCB, VoBx, VoTl. -/
import Derived.Test.YtclieefpnbdbjaaGreatRome28
import Derived.Shelf.Abstract
import Derived.Test.YtclieefpnbdbjaaGreatRome14
namespace Go.Proofs.YtclieefpnbdbjaaGreat.Gf
set_option linter.unusedVariables false
set_option linter.unusedSimpArgs false
/-- what a disk says, as a record: does it speak (of something or of nothing), has it something, which -/
structure RpS where
  sp : Bool
  has : Bool
  ep : Int
  da : List UInt8
def rpN : RpS := ⟨false, false, 0, []⟩
def rpS (s : SaS) : RpS := ⟨s.is || s.no, s.is, if s.is = true then s.ep else 0, if s.is = true then s.da else []⟩
def heS (ad : Int) (p : List UInt8) : RpS := if p = [] then ⟨true, false, 0, []⟩ else if upX ad p = 0 then ⟨true, true, ((upN ad p : Nat) : Int), upD ad p⟩ else rpN
theorem upX_nil {ad : Int} : ¬ upX ad [] = 0 := fun h => by
  have := (upX_iff.1 h).1
  simp at this
theorem rp_hear {a : ArS} {ad : Int} {i : Nat} (h : rdAX a (i : Int) ad = 0) : rpS (sayV a ad i) = heS ad (rdAB a (i : Int) ad) := by
  unfold rpS heS sayV
  simp only [h, true_and]
  by_cases h1 : rdAB a (i : Int) ad = []
  · rw [if_pos h1, h1, decide_eq_false upX_nil]
    rfl
  · rw [if_neg h1, decide_eq_false h1]
    by_cases h2 : upX ad (rdAB a (i : Int) ad) = 0
    · rw [if_pos h2, decide_eq_true h2]; rfl
    · rw [if_neg h2, decide_eq_false h2]; rfl
theorem rp_none {a : ArS} {ad : Int} {i : Nat} (h : ¬ rdAX a (i : Int) ad = 0) : rpS (sayV a ad i) = rpN := by
  unfold rpS sayV
  simp only [h, false_and, decide_false]
  rfl
theorem rp_has {s : SaS} : (rpS s).has = s.is := rfl
section
variable {a : ArS} {ad : Int} {b : List UInt8}
/-- writes to the first r of a list of disks -/
def puW (a : ArS) (ad : Int) (b : List UInt8) (l : List Nat) : Nat → PuS
  | 0 => ⟨false, 0, a⟩
  | r + 1 => if (puW a ad b l r).cr = true then puW a ad b l r else if wrAX (puW a ad b l r).st ((l.getD r 0 : Nat) : Int) ad b = 130 then ⟨true, (puW a ad b l r).n, (puW a ad b l r).st⟩ else ⟨false, (puW a ad b l r).n + (if wrAX (puW a ad b l r).st ((l.getD r 0 : Nat) : Int) ad b = 0 then 1 else 0), wrAS (puW a ad b l r).st ((l.getD r 0 : Nat) : Int) ad b⟩
theorem puW_ap {l m : List Nat} : ∀ r, r ≤ l.length → puW a ad b (l ++ m) r = puW a ad b l r
  | 0, _ => rfl
  | r + 1, h => by
    have e : (l ++ m).getD r 0 = l.getD r 0 := by simp [List.getD, List.getElem?_append_left (show r < l.length by omega)]
    rw [puW, puW, puW_ap r (by omega), e]
theorem puW_to {tO : Nat → Bool} : ∀ n, puV a ad b tO n = puW a ad b ((List.range n).filter tO) ((List.range n).filter tO).length
  | 0 => rfl
  | n + 1 => by
    have ih := puW_to (tO := tO) n
    rw [List.range_succ, List.filter_append]
    by_cases h : tO n = true
    · have e1 : [n].filter tO = [n] := by simp [h]
      rw [e1, List.length_append, List.length_singleton, puW, puW_ap _ (Nat.le_refl _), ← ih, puV, if_pos h]
      have e2 : ((List.range n).filter tO ++ [n]).getD ((List.range n).filter tO).length 0 = n := by simp [List.getD]
      rw [e2]
    · have e1 : [n].filter tO = [] := by simp [h]
      rw [e1, List.append_nil, puV, if_neg h, ← ih]
      split <;> rfl
theorem range_all {n : Nat} : (List.range n).filter (fun _ => true) = List.range n := by simp
/-- what each of these writes answers -/
def wxW (a : ArS) (ad : Int) (b : List UInt8) (l : List Nat) (r : Nat) : Int := wrAX (puW a ad b l r).st ((l.getD r 0 : Nat) : Int) ad b
theorem puW_calm {l : List Nat} : ∀ r, (∀ i, i < r → ¬ wxW a ad b l i = 130) → (puW a ad b l r).cr = false ∧ (puW a ad b l r).n = cnt (fun i => decide (wxW a ad b l i = 0)) r
  | 0, _ => ⟨rfl, rfl⟩
  | r + 1, h => by
    obtain ⟨h1, h2⟩ := puW_calm r fun i hi => h i (by omega)
    have hx : ¬ wrAX (puW a ad b l r).st ((l.getD r 0 : Nat) : Int) ad b = 130 := h r (by omega)
    rw [puW, if_neg (by rw [h1]; decide), if_neg hx]
    refine ⟨rfl, ?_⟩
    show (puW a ad b l r).n + _ = _
    rw [h2]
    by_cases q : wrAX (puW a ad b l r).st ((l.getD r 0 : Nat) : Int) ad b = 0
    · rw [if_pos q, cnt_yes (decide_eq_true q)]
    · rw [if_neg q, cnt_not (decide_eq_false q), Nat.add_zero]
theorem puW_go {l : List Nat} {r : Nat} (h1 : (puW a ad b l r).cr = false) (hx : ¬ wxW a ad b l r = 130) : (puW a ad b l (r + 1)).cr = false ∧ (puW a ad b l (r + 1)).st = wrAS (puW a ad b l r).st ((l.getD r 0 : Nat) : Int) ad b := by
  rw [puW, if_neg (by rw [h1]; decide), if_neg (show ¬ wrAX (puW a ad b l r).st ((l.getD r 0 : Nat) : Int) ad b = 130 from hx)]
  exact ⟨rfl, rfl⟩
theorem puW_crash {l : List Nat} {r n : Nat} (h : ∀ i, i < r → ¬ wxW a ad b l i = 130) (hx : wxW a ad b l r = 130) (hr : r < n) : (puW a ad b l n).cr = true ∧ (puW a ad b l n).st = (puW a ad b l r).st := by
  have h1 := (puW_calm r h).1
  obtain ⟨k, rfl⟩ := Nat.exists_eq_add_of_lt hr
  have key : ∀ k, puW a ad b l (r + k + 1) = ⟨true, (puW a ad b l r).n, (puW a ad b l r).st⟩ := by
    intro k
    induction k with
    | zero =>
      show puW a ad b l (r + 1) = _
      rw [puW, if_neg (by rw [h1]; decide), if_pos (show wrAX (puW a ad b l r).st ((l.getD r 0 : Nat) : Int) ad b = 130 from hx)]
    | succ k ih =>
      rw [puW, show r + (k + 1) = r + k + 1 by omega, ih]
      rfl
  rw [key k]
  exact ⟨rfl, rfl⟩
theorem puW_st {l : List Nat} {r : Nat} (hx : wxW a ad b l r = 130) : wrAS (puW a ad b l r).st ((l.getD r 0 : Nat) : Int) ad b = (puW a ad b l r).st := if_pos (wrAX_crash.1 hx)
end
/-- how many of the first r of what is said are just that -/
def cpR (S : List SaS) (r : Nat) (e : Int) (d : List UInt8) : Nat := cnt (fun i => isV (sF S i) e d) r
theorem cpR_step {S : List SaS} {r : Nat} {e : Int} {d : List UInt8} : cpR S (r + 1) e d = cpR S r e d + (if isV (sF S r) e d = true then 1 else 0) := by
  unfold cpR
  by_cases h : isV (sF S r) e d = true
  · rw [if_pos h, cnt_yes h]
  · rw [if_neg h, cnt_not (by simpa using h), Nat.add_zero]
theorem cpR_pos {S : List SaS} {r : Nat} {e : Int} {d : List UInt8} : 0 < cpR S r e d ↔ ∃ i, i < r ∧ isV (sF S i) e d = true := by
  induction r with
  | zero => exact ⟨fun h => absurd h (by simp [cpR, cnt]), fun ⟨i, h, _⟩ => absurd h (by omega)⟩
  | succ r ih =>
    rw [cpR_step]
    constructor
    · intro h
      by_cases q : isV (sF S r) e d = true
      · exact ⟨r, by omega, q⟩
      · rw [if_neg q] at h
        obtain ⟨i, h1, h2⟩ := ih.1 (by omega)
        exact ⟨i, by omega, h2⟩
    · rintro ⟨i, h1, h2⟩
      by_cases e1 : i = r
      · subst e1; rw [if_pos h2]; omega
      · have := ih.2 ⟨i, by omega, h2⟩
        omega
/-- an election under way: 'left e d' is to come yet; e0, n0, d0 are the best till now -/
structure Elec (S : List SaS) (left : Int → List UInt8 → Prop) (e0 : Int) (n0 : Nat) (d0 : List UInt8) : Prop where
  who : (e0 = 0 ∧ n0 = 0 ∧ d0 = [] ∧ ∀ e d, 0 < cpV S e d → left e d) ∨ (0 < cpV S e0 d0 ∧ n0 = cpV S e0 d0)
  best : ∀ e d, 0 < cpV S e d → ¬ left e d → ¬ Gt17 e (cpV S e d) d e0 n0 d0
theorem Elec.start (S : List SaS) : Elec S (fun e d => 0 < cpV S e d) 0 0 [] := ⟨Or.inl ⟨rfl, rfl, rfl, fun e d h => h⟩, fun e d h hn => absurd h hn⟩
theorem Elec.take {S : List SaS} {left left' : Int → List UInt8 → Prop} {e0 e : Int} {n0 : Nat} {d0 d : List UInt8} (h : Elec S left e0 n0 d0) (hp : 0 < cpV S e d) (hl : ∀ x y, left' x y ↔ (left x y ∧ ¬ (x = e ∧ y = d))) (hg : Gt17 e (cpV S e d) d e0 n0 d0) : Elec S left' e (cpV S e d) d := by
  refine ⟨Or.inr ⟨hp, rfl⟩, fun x y hx hn => ?_⟩
  by_cases q : x = e ∧ y = d
  · rw [q.1, q.2]; exact gt_irr
  · have : ¬ left x y := fun k => hn ((hl x y).2 ⟨k, q⟩)
    exact fun g => h.best x y hx this (gt_trans g hg)
theorem Elec.pass {S : List SaS} {left left' : Int → List UInt8 → Prop} {e0 e : Int} {n0 : Nat} {d0 d : List UInt8} (h : Elec S left e0 n0 d0) (hp : 0 < cpV S e d) (h0 : 0 ≤ e) (hl : ∀ x y, left' x y ↔ (left x y ∧ ¬ (x = e ∧ y = d))) (hg : ¬ Gt17 e (cpV S e d) d e0 n0 d0) : Elec S left' e0 n0 d0 := by
  refine ⟨?_, fun x y hx hn => ?_⟩
  · rcases h.who with ⟨rfl, rfl, rfl, _⟩ | k
    · exfalso
      apply hg
      by_cases q : e = 0
      · exact Or.inr ⟨q, Or.inl hp⟩
      · exact Or.inl (by omega)
    · exact Or.inr k
  · by_cases q : x = e ∧ y = d
    · rw [q.1, q.2]; exact hg
    · exact h.best x y hx fun k => hn ((hl x y).2 ⟨k, q⟩)
/-- what is elected -/
def elE (S : List SaS) : Int := (votS S []).ep
def elD (S : List SaS) : List UInt8 := (votS S []).da
def elN (S : List SaS) : Nat := (votS S []).co
theorem Elec.done {S : List SaS} {left : Int → List UInt8 → Prop} {e0 : Int} {n0 : Nat} {d0 : List UInt8} (h : Elec S left e0 n0 d0) (hl : ∀ e d, ¬ left e d) : e0 = elE S ∧ n0 = elN S ∧ d0 = elD S := by
  unfold elE elN elD
  rcases h.who with ⟨rfl, rfl, rfl, k⟩ | ⟨hp, rfl⟩
  · have : ∀ i, i < S.length → (sF S i).is = false := fun i hi => by
      cases q : (sF S i).is with
      | false => rfl
      | true => exact absurd (k (sF S i).ep (sF S i).da (cpR_pos.2 ⟨i, hi, isV_iff.2 ⟨q, rfl, rfl⟩⟩)) (hl _ _)
    rw [vo_none this []]
    exact ⟨rfl, rfl, rfl⟩
  · have ht : Top S S.length e0 d0 := by
      refine ⟨?_, fun j hj hs => ?_⟩
      · obtain ⟨i, hi, hv⟩ := cpR_pos.1 hp
        exact ⟨i, hi, hv⟩
      · exact h.best _ _ (cpR_pos.2 ⟨j, hj, isV_iff.2 ⟨hs, rfl, rfl⟩⟩) (hl _ _)
    rw [vo_top ht []]
    exact ⟨rfl, rfl, rfl⟩
theorem vot_same (S : List SaS) (K : List Bool) : votS S K = ⟨(votS S []).has, elE S, elD S, elN S, wiF S K S.length⟩ := by
  unfold elE elN elD
  rcases vo_or S with h | ⟨e, d, h⟩
  · rw [vo_none h K, vo_none h []]
  · rw [vo_top h K, vo_top h []]
theorem el_has (S : List SaS) (K : List Bool) : (votS S K).has = decide (0 < elN S) := by
  unfold elN
  rcases vo_or S with h | ⟨e, d, h⟩
  · rw [vo_none h K, vo_none h []]; rfl
  · rw [vo_top h K, vo_top h []]
    obtain ⟨i, hi, hv⟩ := h.one
    exact (decide_eq_true (show 0 < cpV S e d from cpR_pos.2 ⟨i, hi, hv⟩)).symm
end Go.Proofs.YtclieefpnbdbjaaGreat.Gf

namespace Go.Proofs.YtclieefpnbdbjaaGreat.Gf
set_option linter.unusedVariables false
set_option linter.unusedSimpArgs false
open Go.RowKit Go.Shelf
theorem info_int17 : (Tryz.prog.info? 3).map (fun i => (i.zero, i.size, i.bytes)) = some (some (.int .i64 0), 1, 8) := by kernel_rfl
/-- the numbers of some disks, as they are read -/
def zsN (l : List Nat) : List Int := l.map fun (i : Nat) => (i : Int)
theorem zsN_length (l : List Nat) : (zsN l).length = l.length := by simp [zsN]
theorem zsN_getD (l : List Nat) (i : Nat) : (zsN l).getD i 0 = ((l.getD i 0 : Nat) : Int) := by
  unfold zsN
  by_cases h : i < l.length
  · simp [List.getD, h]
  · simp [List.getD, Nat.le_of_not_lt h]
theorem row_rdI {w : World} {g t n : Nat} {l : List Nat} {F : Nat → Value} (hn : l.length = n) (h : w.rowIs g t n F) (hF : ∀ i, i < n → F i = .int .i64 ((l.getD i 0 : Nat) : Int)) (hb : n ≤ 1000000) : RdI w (.slice (some ⟨g, 0, none⟩) n n) (zsN l) := by
  by_cases h0 : l = []
  · subst h0
    simp at hn
    subst hn
    exact Or.inl ⟨_, 0, rfl, rfl⟩
  · refine Or.inr ⟨g, 0, n, fun e => h0 (by unfold zsN at e; simpa using e), by rw [zsN_length, hn], by rw [zsN_length, hn]; unfold maxLen; omega, h.lt, fun i hi => ?_⟩
    rw [zsN_length, hn] at hi
    rw [Nat.zero_add, h.cell hi, hF i hi, zsN_getD]
set_option maxRecDepth 100000 in
theorem vall_any {w : World} {ab : Nat} {GA : Nat → Prop} {a : ArS} (h : ArAt w ab GA a) : Calls Tryz.prog 159 #[.pointer (some ⟨ab, 0, none⟩)] w (MadeRow w 3 a.D.length (fun i => .int .i64 (i : Int))) := by
  have KL := alive_any h
  have d2 := h.ok.d2
  obtain ⟨n, hn⟩ : ∃ n, Hid (n = a.D.length) := ⟨_, rfl⟩
  rw [← hn.out] at d2 KL ⊢
  have mk1 := run_make_row' (P := Tryz.prog) 35 3 (.int .i64 0) 8 Tryz.underlying35 info_int17 rfl .i64 .i64 n (by omega) (by omega)
  go_enter Tryz.func159, Tryz.ntmps159
  go_wp2_with fail
  refine KL.mono ?_
  rintro _ w1 ⟨g0, rfl, r1, s1, b1⟩
  clear KL r1 s1
  obtain ⟨u, hu⟩ : ∃ u, u = w1.alloc (Obj.cells (madeCells #[Value.int .i64 0] n) 3) := ⟨_, rfl⟩
  have hub : Below w1.heap.size w1 u := by rw [hu]; exact belR _ _
  have hur : u.rowIs w1.heap.size 3 n (fun _ => .int .i64 0) := by rw [hu]; exact World.rowIs_made _ _ _ _
  have mk2 := mk1 w1
  obtain ⟨g, hg⟩ : ∃ g, Hid (g = w1.heap.size) := ⟨_, rfl⟩
  rw [← hu, ← hg.out] at mk2
  rw [← hg.out] at hur
  have gl : Hid (w.heap.size ≤ g) := by show _ ≤ _; rw [hg.out]; exact b1.size
  have START : Hid (u.rowIs g 3 n (fun j => if j < 0 then .int .i64 (j : Int) else .int .i64 0) ∧ Below w.heap.size w u) := ⟨hur.congr fun j _ => by rw [if_neg (by omega)], b1.step16 hub b1.size⟩
  clear mk1 hu hub hur b1
  go_wp2_with fail
  go_loopw [11] (fun i wr => ∃ k : Nat, k ≤ n ∧ i = .int .i64 (k : Int) ∧ wr.rowIs g 3 n (fun j => if j < k then .int .i64 (j : Int) else .int .i64 0) ∧ Hid (Below w.heap.size w wr)) (fun i _ => n - (intOf i).toNat)
  case atStart => exact ⟨0, Nat.zero_le _, rfl, START.out.1, START.out.2⟩
  case round =>
    clear START
    obtain ⟨k, hk, rfl, hr, hB⟩ := hrel
    by_cases hlt : k < n
    · have hlt' : (k : Int) < (n : Int) := by omega
      have cq := hr.cell hlt
      have fq := hr.frozen k
      have R3 := hr.set k (.int .i64 (k : Int))
      have E2 : Hid ((wr.setCell ⟨g, k, none⟩ (.int .i64 (k : Int))).rowIs g 3 n (fun j => if j < k + 1 then .int .i64 (j : Int) else .int .i64 0)) := R3.congr fun j hj => by
        by_cases e : j = k
        · rw [if_pos e, if_pos (by omega), e]
        · rw [if_neg e]
          by_cases e2 : j < k
          · rw [if_pos e2, if_pos (by omega)]
          · rw [if_neg e2, if_neg (by omega)]
      have B2 : Hid (Below w.heap.size w (wr.setCell ⟨g, k, none⟩ (.int .i64 (k : Int)))) := hB.out.setCell gl.out _
      clear R3 hr hB
      go_wp2
      go_roundw
      case rel => exact ⟨k + 1, by omega, by go_num, E2.out, B2⟩
      case measure => simp [intOf]; omega
    · obtain rfl : k = n := by omega
      have hge : ¬ (k : Int) < (k : Int) := by omega
      have FIN : Hid (wr.rowIs g 3 k (fun j => .int .i64 (j : Int)) ∧ w.heap.size ≤ g ∧ Below w.heap.size w wr) := ⟨hr.congr fun j hj => if_pos hj, gl.out, hB.out⟩
      clear hr hB
      go_wp2
      go_ret
      exact ⟨g, rfl, FIN.out⟩
/-- what going through disks answers: X is what doing it answers, round by round; JE what is left where the power goes, J where it does not -/
def EachP (n : Nat) (X : Nat → Int) (J JE : Nat → World → Prop) (e : Ending) (w' : World) : Prop :=
  (∃ r, r < n ∧ X r = 130 ∧ (∀ i, i < r → ¬ X i = 130) ∧ e = .returned (.tuple #[.int .i64 0, .int .i64 130]) ∧ JE r w') ∨ ((∀ i, i < n → ¬ X i = 130) ∧ e = .returned (.tuple #[.int .i64 ((cnt (fun i => decide (X i = 0)) n : Nat) : Int), .int .i64 0]) ∧ J n w')
set_option maxRecDepth 100000 in
set_option maxHeartbeats 1000000 in
theorem veach_any {F : Nat} {c0 c1 c2 : Value} {da : Option Addr} {dc n : Nat} {zs : List Int} {w : World} (hn : zs.length = n) (hb : n ≤ 1000) {X : Nat → Int} {J JE : Nat → World → Prop}
    (eg : Hid (∀ (args : Array Value) (w : World), Sem.run Tryz.prog (callFunc F args) w = .ok (.enter F args) w))
    (hl : ∀ r W, J r W → RdI W (.slice da n dc) zs)
    (hf : ∀ r W, r < n → J r W → Calls Tryz.prog F #[.int .i64 (zs.getD r 0), c0, c1, c2] W fun e w' => e = .returned (.int .i64 (X r)) ∧ (X r = 130 → JE r w') ∧ (¬ X r = 130 → J (r + 1) w'))
    (h0 : J 0 w) : Calls Tryz.prog 160 #[.slice da n dc, .func (.func F) #[] #[c0, c1, c2]] w (EachP n X J JE) := by
  have HL : Hid (∀ r W, J r W → RdI W (.slice da n dc) zs) := hl
  have HF : Hid (∀ r W, r < n → J r W → Calls Tryz.prog F #[.int .i64 (zs.getD r 0), c0, c1, c2] W fun e w' => e = .returned (.int .i64 (X r)) ∧ (X r = 130 → JE r w') ∧ (¬ X r = 130 → J (r + 1) w')) := hf
  have HZ : Hid (zs.length = n) := hn
  clear hl hf hn
  go_enter Tryz.func160, Tryz.ntmps160
  go_wp2_with fail
  go_loopw [6, 11] (fun c i wr => ∃ r : Nat, r ≤ n ∧ i = .int .i64 (r : Int) ∧ c = .int .i64 ((cnt (fun i => decide (X i = 0)) r : Nat) : Int) ∧ Hid (J r wr) ∧ Hid (∀ i, i < r → ¬ X i = 130)) (fun _ i _ => n - (intOf i).toNat)
  case atStart => exact ⟨0, Nat.zero_le _, rfl, rfl, h0, fun i hi => by omega⟩
  case round =>
    obtain ⟨r, hr, rfl, rfl, hJ, hX⟩ := hrel
    have hc := cnt_le (fun i => decide (X i = 0)) r
    by_cases hlt : r < n
    · have hlt' : (r : Int) < (n : Int) := by omega
      obtain ⟨b, off, rfl, hbs, hcc⟩ := (HL.out r wr hJ.out).at (i := r) (by rw [HZ.out]; exact hlt)
      have K := HF.out r wr hlt hJ.out
      obtain ⟨z, hz⟩ : ∃ z, Hid (z = zs.getD r 0) := ⟨_, rfl⟩
      obtain ⟨x, hx⟩ : ∃ x, Hid (x = X r) := ⟨_, rfl⟩
      rw [← hz.out] at hcc K
      rw [← hx.out] at K
      obtain ⟨c, hcn⟩ : ∃ c, Hid (c = cnt (fun i => decide (X i = 0)) r) := ⟨_, rfl⟩
      rw [← hcn.out] at hc ⊢
      have CS : Hid (cnt (fun i => decide (X i = 0)) (r + 1) = c + if x = 0 then 1 else 0) := by
        show _ = _
        rw [hcn.out, hx.out]
        by_cases q : X r = 0
        · rw [if_pos q, cnt_yes (decide_eq_true q)]
        · rw [if_neg q, cnt_not (decide_eq_false q), Nat.add_zero]
      clear hcn
      go_wp2_with fail
      rw [eg.out, Oper.upon_enter]
      refine K.mono ?_
      rintro _ w1 ⟨rfl, k1, k2⟩
      clear K hcc hJ
      by_cases q0 : x = 0
      · have N1 : Hid (J (r + 1) w1) := k2 (by rw [q0]; decide)
        have N2 : Hid (∀ i, i < r + 1 → ¬ X i = 130) := fun i hi => by
          by_cases e : i = r
          · rw [e, ← hx.out, q0]; decide
          · exact hX.out i (by omega)
        rw [if_pos q0] at CS
        subst q0
        clear k1 k2 hx hX
        go_wp2
        go_roundw
        case rel => exact ⟨r + 1, by omega, by go_num, by rw [CS.out]; go_num, N1, N2⟩
        case measure => simp [intOf]; omega
      · have q0' : (x == 0) = false := beq_eq_false_iff_ne.2 q0
        by_cases q1 : x = 130
        · have FIN : Hid (EachP n X J JE (.returned (.tuple #[.int .i64 0, .int .i64 130])) w1) := Or.inl ⟨r, hlt, by rw [← hx.out, q1], hX.out, rfl, k1 q1⟩
          subst q1
          clear k1 k2 hx hX
          go_wp2
          exact bodyPost_ret (v := .tuple #[.int .i64 0, .int .i64 130]) (by simp [results, Tryz.results160, go_sem]) rfl FIN.out
        · have q1' : (x == 130) = false := beq_eq_false_iff_ne.2 q1
          have N1 : Hid (J (r + 1) w1) := k2 q1
          have N2 : Hid (∀ i, i < r + 1 → ¬ X i = 130) := fun i hi => by
            by_cases e : i = r
            · rw [e, ← hx.out]; exact q1
            · exact hX.out i (by omega)
          rw [if_neg q0] at CS
          clear k1 k2 hx hX
          go_wp2
          go_roundw
          case rel => exact ⟨r + 1, by omega, by go_num, by rw [CS.out]; rfl, N1, N2⟩
          case measure => simp [intOf]; omega
    · obtain rfl : r = n := by omega
      have hge : ¬ (r : Int) < (r : Int) := by omega
      have FIN : Hid (EachP r X J JE (.returned (.tuple #[.int .i64 ((cnt (fun i => decide (X i = 0)) r : Nat) : Int), .int .i64 0])) wr) := Or.inr ⟨hX.out, rfl, hJ.out⟩
      clear hJ hX hc
      go_wp2
      exact bodyPost_ret (v := .tuple #[.int .i64 ((cnt (fun i => decide (X i = 0)) r : Nat) : Int), .int .i64 0]) (by simp [results, Tryz.results160, go_sem]) rfl FIN.out
/-- three variables in boxes -/
theorem box3 {w W : World} {x y z : Value} {s t u : Nat} (h : W = ((w.alloc (.cells #[x] s)).alloc (.cells #[y] t)).alloc (.cells #[z] u)) : Below w.heap.size w W ∧ W.cell? ⟨w.heap.size, 0, none⟩ = some x ∧ W.cell? ⟨w.heap.size + 1, 0, none⟩ = some y ∧ W.cell? ⟨w.heap.size + 1 + 1, 0, none⟩ = some z ∧ W.heap.size = w.heap.size + 3 := by
  obtain ⟨u1, hu1⟩ : ∃ u1, u1 = w.alloc (.cells #[x] s) := ⟨_, rfl⟩
  obtain ⟨u2, hu2⟩ : ∃ u2, u2 = u1.alloc (.cells #[y] t) := ⟨_, rfl⟩
  rw [← hu1, ← hu2] at h
  have s1 : u1.heap.size = w.heap.size + 1 := by rw [hu1]; simp
  have s2 : u2.heap.size = w.heap.size + 1 + 1 := by rw [hu2, ← s1]; simp
  have s3 : W.heap.size = w.heap.size + 3 := by
    have : W.heap.size = u2.heap.size + 1 := by rw [h]; simp
    omega
  have b1 : Below w.heap.size w u1 := by rw [hu1]; exact belR _ _
  have b2 : Below u1.heap.size u1 u2 := by rw [hu2]; exact belR _ _
  have b3 : Below u2.heap.size u2 W := by rw [h]; exact belR _ _
  have k1 : u1.cell? ⟨w.heap.size, 0, none⟩ = some x := by rw [hu1]; exact World.cell?_alloc_new _ _ _ _
  have k2 : u2.cell? ⟨u1.heap.size, 0, none⟩ = some y := by rw [hu2]; exact World.cell?_alloc_new _ _ _ _
  have k3 : W.cell? ⟨u2.heap.size, 0, none⟩ = some z := by rw [h]; exact World.cell?_alloc_new _ _ _ _
  have b23 := b2.step16 b3 b2.size
  refine ⟨b1.step16 b23 b1.size, (b23.cell (p := ⟨w.heap.size, 0, none⟩) (by show w.heap.size < _; omega)).trans k1, ?_, ?_, s3⟩
  · rw [← s1]; exact (b3.cell (p := ⟨u1.heap.size, 0, none⟩) (by show u1.heap.size < _; omega)).trans k2
  · rw [← s2]; exact k3
theorem enters_write1 : Hid (∀ (args : Array Value) (w : World), Sem.run Tryz.prog (callFunc 193 args) w = .ok (.enter 193 args) w) := enters_of Tryz.func193 (by kernel_rfl) rfl
set_option maxRecDepth 100000 in
theorem vwrite1_any {w : World} {ab : Nat} {GA : Nat → Prop} {a : ArS} (h : ArAt w ab GA a) {i ad : Int} (hi : (Lit.int .i64 i).wf = true) (ha : (Lit.int .i64 ad).wf = true) {v : Value} {b : List UInt8} (hp : Rd w v b) {b0 b1 b2 : Nat}
    (c0 : w.cell? ⟨b0, 0, none⟩ = some (.pointer (some ⟨ab, 0, none⟩))) (c1 : w.cell? ⟨b1, 0, none⟩ = some (.int .i64 ad)) (c2 : w.cell? ⟨b2, 0, none⟩ = some v) :
    Calls Tryz.prog 193 #[.int .i64 i, .pointer (some ⟨b0, 0, none⟩), .pointer (some ⟨b1, 0, none⟩), .pointer (some ⟨b2, 0, none⟩)] w (LeavesA w ab GA (wrAS a i ad b) (.int .i64 (wrAX a i ad b))) := by
  have K := awrite_any h hi ha hp
  obtain ⟨va, vc, ev⟩ := hp.form
  subst ev
  obtain ⟨x, hx⟩ : ∃ x, Hid (x = wrAX a i ad b) := ⟨_, rfl⟩
  obtain ⟨s, hs⟩ : ∃ s, Hid (s = wrAS a i ad b) := ⟨_, rfl⟩
  rw [← hx.out, ← hs.out] at K ⊢
  clear hp h hx hs
  go_enter Tryz.func193, Tryz.ntmps193
  go_wp2_with fail
  refine K.mono ?_
  rintro _ w1 ⟨rfl, L⟩
  have FIN : Hid (∃ GA', ArAt w1 ab GA' s ∧ Grew GA w GA' w1) := L
  clear L K
  go_wp2
  go_ret
  exact ⟨rfl, FIN.out⟩
set_option maxRecDepth 100000 in
theorem vwrite_any {w : World} {ab : Nat} {GA : Nat → Prop} {a : ArS} (h : ArAt w ab GA a) {ad : Int} (ha : (Lit.int .i64 ad).wf = true) {pv : Value} {b : List UInt8} (hp : ∀ W, TurnG GA w W → Rd W pv b) {da : Option Addr} {dc n : Nat} {l : List Nat} (hn : l.length = n) (hb : n ≤ 1000) (hs : ∀ i, i < n → l.getD i 0 ≤ 1000) (hd : ∀ W, TurnG GA w W → RdI W (.slice da n dc) (zsN l)) :
    Calls Tryz.prog 168 #[.pointer (some ⟨ab, 0, none⟩), .slice da n dc, .int .i64 ad, pv] w (LeavesA w ab GA (puW a ad b l n).st (.tuple #[.int .i64 (puN (puW a ad b l n)), .int .i64 (puE (puW a ad b l n))])) := by
  obtain ⟨va, vc, ev⟩ := (hp w (TurnG.refl _ _)).form
  subst ev
  obtain ⟨W, hW⟩ : ∃ W, W = ((w.alloc (.cells #[.pointer (some ⟨ab, 0, none⟩)] 27)).alloc (.cells #[.int .i64 ad] 3)).alloc (.cells #[.slice va b.length vc] 42) := ⟨_, rfl⟩
  obtain ⟨B, c0, c1, c2, sz⟩ := box3 hW
  have hA := h.below B
  have lG := h.lt
  have ng : ∀ k, w.heap.size ≤ k → ¬ GA k := fun k hk e => by have := lG k e; omega
  have KE := @veach_any 193 (.pointer (some ⟨w.heap.size, 0, none⟩)) (.pointer (some ⟨w.heap.size + 1, 0, none⟩)) (.pointer (some ⟨w.heap.size + 1 + 1, 0, none⟩)) da dc n (zsN l) W (by rw [zsN_length, hn]) hb (wxW a ad b l)
    (fun r V => (∃ GA', ArAt V ab GA' (puW a ad b l r).st ∧ Grew GA W GA' V) ∧ ∀ i, i < r → ¬ wxW a ad b l i = 130) (fun r V => ∃ GA', ArAt V ab GA' (puW a ad b l r).st ∧ Grew GA W GA' V) enters_write1
    (fun r V ⟨⟨GA', _, g⟩, _⟩ => hd V ((Below.turnG B GA).trans g.turn))
    (fun r V hr ⟨⟨GA', k1, g⟩, k3⟩ => by
      have q := vwrite1_any k1 (i := (zsN l).getD r 0) (by rw [zsN_getD]; have := hs r hr; exact WalkArith.wf_i64 (by omega)) ha (hp V ((Below.turnG B GA).trans g.turn))
        ((g.turn.cell (p := ⟨w.heap.size, 0, none⟩) (by show w.heap.size < _; omega) (ng _ (Nat.le_refl _))).trans c0) ((g.turn.cell (p := ⟨w.heap.size + 1, 0, none⟩) (by show w.heap.size + 1 < _; omega) (ng (w.heap.size + 1) (by omega))).trans c1) ((g.turn.cell (p := ⟨w.heap.size + 1 + 1, 0, none⟩) (by show w.heap.size + 1 + 1 < _; omega) (ng (w.heap.size + 1 + 1) (by omega))).trans c2)
      refine q.mono ?_
      rintro _ V2 ⟨rfl, GA2, A2, g2⟩
      rw [zsN_getD] at A2 ⊢
      refine ⟨rfl, fun e => ⟨GA2, ?_, g.trans g2⟩, fun e => ⟨⟨GA2, ?_, g.trans g2⟩, fun i hi => ?_⟩⟩
      · rw [puW_st e] at A2; exact A2
      · rw [(puW_go (puW_calm r k3).1 e).2]; exact A2
      · by_cases q : i = r
        · rw [q]; exact e
        · exact k3 i (by omega))
    ⟨⟨GA, hA, Grew.refl _ _⟩, fun i hi => by omega⟩
  have FIN : Hid (∀ e V, EachP n (wxW a ad b l) (fun r V => (∃ GA', ArAt V ab GA' (puW a ad b l r).st ∧ Grew GA W GA' V) ∧ ∀ i, i < r → ¬ wxW a ad b l i = 130) (fun r V => ∃ GA', ArAt V ab GA' (puW a ad b l r).st ∧ Grew GA W GA' V) e V → LeavesA w ab GA (puW a ad b l n).st (.tuple #[.int .i64 (puN (puW a ad b l n)), .int .i64 (puE (puW a ad b l n))]) e V) := by
    rintro e V (⟨r, hr, x1, x2, rfl, GA', A1, g1⟩ | ⟨x2, rfl, ⟨GA', A1, g1⟩, _⟩)
    · obtain ⟨y1, y2⟩ := puW_crash x2 x1 hr
      unfold puN puE
      rw [y1, y2]
      exact ⟨rfl, GA', A1, (Grew.of_below B).trans g1⟩
    · obtain ⟨y1, y2⟩ := puW_calm n x2
      unfold puN puE
      rw [y1, if_neg (by decide), if_neg (by decide), y2]
      exact ⟨rfl, GA', A1, (Grew.of_below B).trans g1⟩
  clear hA h hp hd hs lG ng c0 c1 c2 sz B
  go_enter Tryz.func168, Tryz.ntmps168
  go_wp2_with fail
  rw [← hW]
  refine KE.mono ?_
  rintro _ V (⟨r, hr, x1, x2, rfl, k⟩ | ⟨x2, rfl, k⟩)
  · have F : Hid (LeavesA w ab GA (puW a ad b l n).st (.tuple #[.int .i64 (puN (puW a ad b l n)), .int .i64 (puE (puW a ad b l n))]) (.returned (.tuple #[.int .i64 0, .int .i64 130])) V) := FIN.out _ V (Or.inl ⟨r, hr, x1, x2, rfl, k⟩)
    clear FIN KE x1 x2 k hW
    go_wp2
    exact bodyPost_ret (v := .tuple #[.int .i64 0, .int .i64 130]) (by simp [results, Tryz.results168, go_sem]) rfl F.out
  · obtain ⟨c, hc⟩ : ∃ c, Hid (c = cnt (fun i => decide (wxW a ad b l i = 0)) n) := ⟨_, rfl⟩
    have F : Hid (LeavesA w ab GA (puW a ad b l n).st (.tuple #[.int .i64 (puN (puW a ad b l n)), .int .i64 (puE (puW a ad b l n))]) (.returned (.tuple #[.int .i64 (c : Int), .int .i64 0])) V) := by
      rw [hc.out]
      exact FIN.out _ V (Or.inr ⟨x2, rfl, k⟩)
    rw [← hc.out]
    clear FIN KE x2 k hW hc
    go_wp2
    exact bodyPost_ret (v := .tuple #[.int .i64 (c : Int), .int .i64 0]) (by simp [results, Tryz.results168, go_sem]) rfl F.out
end Go.Proofs.YtclieefpnbdbjaaGreat.Gf

namespace Go.Proofs.YtclieefpnbdbjaaGreat.Gf
set_option linter.unusedVariables false
set_option linter.unusedSimpArgs false
open Go.RowKit
def aggV (v : VoS) (vd : Value) : Value := .agg #[.bool v.has, .int .i64 v.ep, vd, .int .i64 ((v.co : Nat) : Int), .bool v.wi]
section
variable {w1 wr : World} {g : Nat} {v : VoS} {vd : Value}
theorem cell_setO {w : World} {g i j : Nat} {u : Value} (h : i ≠ j) : (w.setCell ⟨g, i, none⟩ u).cell? ⟨g, j, none⟩ = w.cell? ⟨g, j, none⟩ := World.cell?_setCell_other _ _ _ _ (by first | (simp; done) | (simp; omega))
theorem set5 {w : World} {g : Nat} {a b c d e x0 x1 x2 x3 x4 : Value} (m0 : w.cell? ⟨g, 0, none⟩ = some x0) (m1 : w.cell? ⟨g, 1, none⟩ = some x1) (m2 : w.cell? ⟨g, 2, none⟩ = some x2) (m3 : w.cell? ⟨g, 3, none⟩ = some x3) (m4 : w.cell? ⟨g, 4, none⟩ = some x4) {W : World} (hW : W = ((((w.setCell ⟨g, 0, none⟩ a).setCell ⟨g, 1, none⟩ b).setCell ⟨g, 2, none⟩ c).setCell ⟨g, 3, none⟩ d).setCell ⟨g, 4, none⟩ e) :
    Only g w W ∧ W.cell? ⟨g, 0, none⟩ = some a ∧ W.cell? ⟨g, 1, none⟩ = some b ∧ W.cell? ⟨g, 2, none⟩ = some c ∧ W.cell? ⟨g, 3, none⟩ = some d ∧ W.cell? ⟨g, 4, none⟩ = some e := by
  subst hW
  refine ⟨(((((Only.refl _ _).setCell _ _).setCell _ _).setCell _ _).setCell _ _).setCell _ _, ?_, ?_, ?_, ?_, ?_⟩
  · rw [cell_setO (by decide), cell_setO (by decide), cell_setO (by decide), cell_setO (by decide), World.cell?_setCell_same _ _ _ m0]
  · rw [cell_setO (by decide), cell_setO (by decide), cell_setO (by decide), World.cell?_setCell_same _ _ _ ((cell_setO (by decide)).trans m1)]
  · rw [cell_setO (by decide), cell_setO (by decide), World.cell?_setCell_same _ _ _ ((cell_setO (by decide)).trans ((cell_setO (by decide)).trans m2))]
  · rw [cell_setO (by decide), World.cell?_setCell_same _ _ _ ((cell_setO (by decide)).trans ((cell_setO (by decide)).trans ((cell_setO (by decide)).trans m3)))]
  · exact World.cell?_setCell_same _ _ _ ((cell_setO (by decide)).trans ((cell_setO (by decide)).trans ((cell_setO (by decide)).trans ((cell_setO (by decide)).trans m4))))
end
end Go.Proofs.YtclieefpnbdbjaaGreat.Gf

namespace Go.Proofs.YtclieefpnbdbjaaGreat.Gf
set_option linter.unusedVariables false
set_option linter.unusedSimpArgs false
open Go.RowKit
def TellsVF (w : World) (X : Int) (V : VoS) (e : Ending) (w' : World) : Prop := ∃ vd, e = .returned (.tuple #[aggV V vd, .int .i64 X]) ∧ Rd w' vd V.da ∧ FarV w vd ∧ Below w.heap.size w w'
end Go.Proofs.YtclieefpnbdbjaaGreat.Gf
