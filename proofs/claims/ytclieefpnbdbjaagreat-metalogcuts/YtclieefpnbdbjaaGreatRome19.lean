/- TEXTS JOINED: ReMath, ReSnap, ReObj, ReOL, ReBel, ReGrM, ReChk. -/
import Derived.Test.YtclieefpnbdbjaaGreatRome5
import Derived.Lib.SmallJoins
import Derived.Test.YtclieefpnbdbjaaGreatRome7
namespace Go.Proofs.YtclieefpnbdbjaaGreat.Gf
set_option linter.unusedVariables false
set_option linter.unusedSimpArgs false
open Go.RowKit
/-- a number's two bytes -/
def tw (n : Nat) : List UInt8 := [UInt8.ofNat (n / 256), UInt8.ofNat n]
/-- the number of two bytes -/
def un (p : List UInt8) : Nat := 256 * (co p 0).toNat + (co p 1).toNat
theorem tw_length (n : Nat) : (tw n).length = 2 := rfl
theorem un_lt (p : List UInt8) : un p < 65536 := by
  have h0 := (co p 0).toNat_lt
  have h1 := (co p 1).toNat_lt
  unfold un
  omega
theorem un_tw {n : Nat} (h : n < 65536) (r : List UInt8) : un (tw n ++ r) = n := by
  show 256 * (UInt8.ofNat (n / 256)).toNat + (UInt8.ofNat n).toNat = n
  simp only [UInt8.toNat_ofNat']
  omega
/-- a record: kind, key, length, stripes -/
structure RcS where
  kind : Int
  key : List UInt8
  len : Int
  st : List Int
def OkR (r : RcS) : Prop := (r.kind = 1 ∨ r.kind = 2) ∧ 1 ≤ r.key.length ∧ r.key.length ≤ 64 ∧ 0 ≤ r.len ∧ r.len ≤ 2147483647 ∧ r.st.length ≤ 256 ∧ (∀ s ∈ r.st, 0 ≤ s ∧ s < 256) ∧ (r.kind = 2 → r.len = 0 ∧ r.st.length = 0)
instance (r : RcS) : Decidable (OkR r) := inferInstanceAs (Decidable (_ ∧ _ ∧ _ ∧ _ ∧ _ ∧ _ ∧ _ ∧ _))
/-- stripes' bytes -/
def stB : List Int → List UInt8
  | [] => []
  | s :: l => tw s.toNat ++ stB l
theorem stB_length (l : List Int) : (stB l).length = 2 * l.length := by
  induction l with
  | nil => rfl
  | cons s l ih => show (tw s.toNat ++ stB l).length = _; rw [List.length_append, ih, tw_length, List.length_cons]; omega
theorem stB_append (l m : List Int) : stB (l ++ m) = stB l ++ stB m := by
  induction l with
  | nil => rfl
  | cons s l ih => show tw s.toNat ++ stB (l ++ m) = tw s.toNat ++ stB l ++ stB m; rw [ih, List.append_assoc]
/-- the first n stripes of bytes -/
def stN : Nat → List UInt8 → List Int
  | 0, _ => []
  | n + 1, b => (un b : Int) :: stN n (b.drop 2)
theorem stN_length (n : Nat) (b : List UInt8) : (stN n b).length = n := by
  induction n generalizing b with
  | zero => rfl
  | succ n ih => show ((un b : Int) :: stN n (b.drop 2)).length = _; rw [List.length_cons, ih]
theorem stN_stB (l : List Int) (h : ∀ s ∈ l, 0 ≤ s ∧ s < 256) (r : List UInt8) : stN l.length (stB l ++ r) = l := by
  induction l with
  | nil => rfl
  | cons s l ih =>
    have hs := h s (List.mem_cons_self ..)
    show (un (tw s.toNat ++ stB l ++ r) : Int) :: stN l.length ((tw s.toNat ++ stB l ++ r).drop 2) = s :: l
    rw [List.append_assoc, un_tw (by omega)]
    rw [show (tw s.toNat ++ (stB l ++ r)).drop 2 = stB l ++ r from rfl, ih fun x hx => h x (List.mem_cons_of_mem _ hx)]
    congr 1
    omega
/-- a record's bytes -/
def enR (r : RcS) : List UInt8 := UInt8.ofNat r.kind.toNat :: UInt8.ofNat r.key.length :: (r.key ++ (fo r.len.toNat ++ (tw r.st.length ++ stB r.st)))
theorem enR_length (r : RcS) : (enR r).length = 8 + r.key.length + 2 * r.st.length := by
  unfold enR
  simp only [List.length_cons, List.length_append, fo_length, tw_length, stB_length]
  omega
/-- the record that bytes say they begin with -/
def raR (b : List UInt8) : RcS := ⟨((co b 0).toNat : Nat), (b.drop 2).take (co b 1).toNat, (nu ((b.drop 2).drop (co b 1).toNat) : Nat), stN (un (((b.drop 2).drop (co b 1).toNat).drop 4)) ((((b.drop 2).drop (co b 1).toNat).drop 4).drop 2)⟩
/-- .. is there as much? -/
def LnR (b : List UInt8) : Prop := 2 ≤ b.length ∧ 8 + (co b 1).toNat + 2 * un (((b.drop 2).drop (co b 1).toNat).drop 4) ≤ b.length
instance (b : List UInt8) : Decidable (LnR b) := inferInstanceAs (Decidable (_ ∧ _))
/-- .. what stands behind it -/
def reR (b : List UInt8) : List UInt8 := b.drop (8 + (co b 1).toNat + 2 * un (((b.drop 2).drop (co b 1).toNat).drop 4))
/-- bytes begin with a record -/
def NxR (b : List UInt8) : Prop := LnR b ∧ OkR (raR b)
instance (b : List UInt8) : Decidable (NxR b) := inferInstanceAs (Decidable (_ ∧ _))
theorem nu_fo_app {n : Nat} (h : n < 4294967296) (r : List UInt8) : nu (fo n ++ r) = n := by
  show nu (fo n) = n
  exact nu_fo h
theorem nx_en {r : RcS} (h : OkR r) (rest : List UInt8) : NxR (enR r ++ rest) ∧ raR (enR r ++ rest) = r ∧ reR (enR r ++ rest) = rest := by
  obtain ⟨h1, h2, h3, h4, h5, h6, h7, h8⟩ := h
  obtain ⟨k, y, n, st⟩ := r
  simp only at h1 h2 h3 h4 h5 h6 h7 h8
  have c1 : (co (enR ⟨k, y, n, st⟩ ++ rest) 1).toNat = y.length := by
    show (UInt8.ofNat y.length).toNat = _
    rw [UInt8.toNat_ofNat']; omega
  have c0 : (((co (enR ⟨k, y, n, st⟩ ++ rest) 0).toNat : Nat) : Int) = k := by
    show (((UInt8.ofNat k.toNat).toNat : Nat) : Int) = _
    rw [UInt8.toNat_ofNat']; omega
  have d2 : (enR ⟨k, y, n, st⟩ ++ rest).drop 2 = y ++ (fo n.toNat ++ (tw st.length ++ (stB st ++ rest))) := by
    show (y ++ (fo n.toNat ++ (tw st.length ++ stB st))) ++ rest = _
    simp only [List.append_assoc]
  have d3 : (y ++ (fo n.toNat ++ (tw st.length ++ (stB st ++ rest)))).drop y.length = fo n.toNat ++ (tw st.length ++ (stB st ++ rest)) := List.drop_left
  have d4 : (fo n.toNat ++ (tw st.length ++ (stB st ++ rest))).drop 4 = tw st.length ++ (stB st ++ rest) := rfl
  have d5 : (tw st.length ++ (stB st ++ rest)).drop 2 = stB st ++ rest := rfl
  have er : raR (enR ⟨k, y, n, st⟩ ++ rest) = ⟨k, y, n, st⟩ := by
    unfold raR
    rw [c0, c1, d2, d3, d4, d5, un_tw (by omega), stN_stB st h7, nu_fo_app (by omega), List.take_left]
    congr 1
    omega
  refine ⟨⟨⟨?_, ?_⟩, ?_⟩, er, ?_⟩
  · rw [List.length_append, enR_length]; omega
  · rw [c1, d2, d3, d4, un_tw (by omega), List.length_append, enR_length]
    show 8 + y.length + 2 * st.length ≤ 8 + y.length + 2 * st.length + rest.length
    omega
  · rw [er]; exact ⟨h1, h2, h3, h4, h5, h6, h7, h8⟩
  · unfold reR
    rw [c1, d2, d3, d4, un_tw (by omega)]
    have := enR_length ⟨k, y, n, st⟩
    simp only at this
    rw [← this, List.drop_left]
/-- bytes are a record's -/
def IsR (b : List UInt8) : Prop := NxR b ∧ reR b = []
instance (b : List UInt8) : Decidable (IsR b) := inferInstanceAs (Decidable (_ ∧ _))
theorem isR_en {r : RcS} (h : OkR r) : IsR (enR r) ∧ raR (enR r) = r := by
  have := nx_en h []
  rw [List.append_nil] at this
  exact ⟨⟨this.1, this.2.2⟩, this.2.1⟩
end Go.Proofs.YtclieefpnbdbjaaGreat.Gf

namespace Go.Proofs.YtclieefpnbdbjaaGreat.Gf
set_option linter.unusedVariables false
set_option linter.unusedSimpArgs false
open Go.RowKit
/-- an object: key, length, epoch, stripes -/
structure ObS where
  key : List UInt8
  len : Int
  ep : Int
  st : List Int
instance : Inhabited ObS := ⟨⟨[], 0, 0, []⟩⟩
def putR (o : ObS) : RcS := ⟨1, o.key, o.len, o.st⟩
def OkO (o : ObS) : Prop := OkR (putR o) ∧ 0 ≤ o.ep ∧ o.ep ≤ 2147483647
/-- b stands above a -/
def upK (a b : List UInt8) : Bool := !(Op.bytesLess b a || b == a)
/-- how many stripes all have -/
def cntO : List ObS → Nat
  | [] => 0
  | o :: l => o.st.length + cntO l
theorem cntO_append (l m : List ObS) : cntO (l ++ m) = cntO l + cntO m := by
  induction l with
  | nil => exact (Nat.zero_add _).symm
  | cons o l ih => show o.st.length + cntO (l ++ m) = o.st.length + cntO l + cntO m; rw [ih, Nat.add_assoc]
/-- objects may be -/
def MayL (l : List ObS) : Prop := l.length ≤ 64 ∧ (∀ i, i < l.length → OkO (l.getD i default) ∧ (0 < i → upK (l.getD (i - 1) default).key (l.getD i default).key = true)) ∧ cntO l ≤ 256
theorem MayL.all {l : List ObS} (h : MayL l) {o : ObS} (ho : o ∈ l) : OkO o := by
  obtain ⟨i, hi, rfl⟩ := List.getElem_of_mem ho
  have := (h.2.1 i hi).1
  rwa [List.getD_eq_getElem?_getD, List.getElem?_eq_getElem hi] at this
/-- an object's bytes -/
def obB (o : ObS) : List UInt8 := fo o.ep.toNat ++ enR (putR o)
theorem obB_length (o : ObS) : (obB o).length = 12 + o.key.length + 2 * o.st.length := by
  unfold obB
  rw [List.length_append, fo_length, enR_length]
  show 4 + (8 + o.key.length + 2 * o.st.length) = _
  omega
def obsB : List ObS → List UInt8
  | [] => []
  | o :: l => obB o ++ obsB l
theorem obsB_append (l m : List ObS) : obsB (l ++ m) = obsB l ++ obsB m := by
  induction l with
  | nil => rfl
  | cons o l ih => show obB o ++ obsB (l ++ m) = obB o ++ obsB l ++ obsB m; rw [ih, List.append_assoc]
theorem obsB_le {l : List ObS} (h : ∀ o ∈ l, OkO o) : (obsB l).length ≤ 76 * l.length + 2 * cntO l := by
  induction l with
  | nil => exact Nat.le_refl _
  | cons o l ih =>
    have h1 := ih fun x hx => h x (List.mem_cons_of_mem _ hx)
    have h2 : o.key.length ≤ 64 := (h o (List.mem_cons_self ..)).1.2.2.1
    show (obB o ++ obsB l).length ≤ 76 * (l.length + 1) + 2 * (o.st.length + cntO l)
    rw [List.length_append, obB_length]
    omega
/-- all objects' bytes -/
def snB (l : List ObS) : List UInt8 := tw l.length ++ obsB l
theorem snB_le {l : List ObS} (h : MayL l) : (snB l).length ≤ 5378 := by
  have h1 := obsB_le fun o ho => h.all ho
  have h2 := h.1
  have h3 := h.2.2
  unfold snB
  rw [List.length_append, tw_length]
  omega
/-- .. in two parts -/
def snP (l : List ObS) : List (List UInt8) := [(snB l).take 4096, (snB l).drop 4096]
/-- bytes begin with an object -/
def NxO (b : List UInt8) : Prop := 4 ≤ b.length ∧ NxR (b.drop 4) ∧ nu b ≤ 2147483647 ∧ (raR (b.drop 4)).kind = 1
instance (b : List UInt8) : Decidable (NxO b) := inferInstanceAs (Decidable (_ ∧ _ ∧ _ ∧ _))
def raO (b : List UInt8) : ObS := ⟨(raR (b.drop 4)).key, (raR (b.drop 4)).len, (nu b : Nat), (raR (b.drop 4)).st⟩
def reO (b : List UInt8) : List UInt8 := reR (b.drop 4)
theorem ob_en {o : ObS} (h : OkO o) (r : List UInt8) : NxO (obB o ++ r) ∧ raO (obB o ++ r) = o ∧ reO (obB o ++ r) = r := by
  obtain ⟨h1, h2, h3⟩ := h
  have d : (obB o ++ r).drop 4 = enR (putR o) ++ r := by
    show ((fo o.ep.toNat ++ enR (putR o)) ++ r).drop 4 = _
    rw [List.append_assoc]; rfl
  have e : nu (obB o ++ r) = o.ep.toNat := by
    show nu ((fo o.ep.toNat ++ enR (putR o)) ++ r) = _
    rw [List.append_assoc]; exact nu_fo_app (by omega) _
  obtain ⟨n1, n2, n3⟩ := nx_en h1 r
  refine ⟨⟨?_, by rw [d]; exact n1, by rw [e]; omega, by rw [d, n2]; rfl⟩, ?_, by unfold reO; rw [d]; exact n3⟩
  · rw [List.length_append, obB_length]; omega
  · unfold raO
    rw [d, n2, e]
    obtain ⟨k, n, p, s⟩ := o
    simp only at h2 ⊢
    show (⟨k, n, ((p.toNat : Nat) : Int), s⟩ : ObS) = _
    rw [Int.toNat_of_nonneg h2]
/-- the first n objects of bytes, and what stands behind -/
def unO : Nat → List UInt8 → Option (List ObS × List UInt8)
  | 0, b => some ([], b)
  | n + 1, b => if NxO b then (unO n (reO b)).map (fun x => (raO b :: x.1, x.2)) else none
theorem un_en {l : List ObS} (h : ∀ o ∈ l, OkO o) (r : List UInt8) : unO l.length (obsB l ++ r) = some (l, r) := by
  induction l with
  | nil => rfl
  | cons o l ih =>
    have e := ob_en (h o (List.mem_cons_self ..)) (obsB l ++ r)
    show (if NxO ((obB o ++ obsB l) ++ r) then (unO l.length (reO ((obB o ++ obsB l) ++ r))).map (fun x => (raO ((obB o ++ obsB l) ++ r) :: x.1, x.2)) else none) = _
    rw [List.append_assoc, if_pos e.1, e.2.1, e.2.2, ih fun x hx => h x (List.mem_cons_of_mem _ hx)]
    rfl
/-- parts are cut as they should be -/
def CutP (p q : List UInt8) : Prop := p.length ≤ 4096 ∧ q.length ≤ 4096 ∧ (q = [] ∨ p.length = 4096)
theorem cut_of {b : List UInt8} (h : b.length ≤ 8192) : CutP (b.take 4096) (b.drop 4096) := by
  refine ⟨by rw [List.length_take]; omega, by rw [List.length_drop]; omega, ?_⟩
  by_cases hb : b.length ≤ 4096
  · exact Or.inl (List.drop_eq_nil_of_le hb)
  · exact Or.inr (by rw [List.length_take]; omega)
/-- parts are those of the objects l -/
def IsP (L : List (List UInt8)) (l : List ObS) : Prop := ∃ p q, L = [p, q] ∧ CutP p q ∧ 2 ≤ (p ++ q).length ∧ unO (un (p ++ q)) ((p ++ q).drop 2) = some (l, []) ∧ MayL l
theorem isP_sn {l : List ObS} (h : MayL l) : IsP (snP l) l := by
  have hb := snB_le h
  refine ⟨_, _, rfl, cut_of (by omega), ?_, ?_, h⟩
  · rw [List.take_append_drop]; unfold snB; rw [List.length_append, tw_length]; omega
  · rw [List.take_append_drop]
    unfold snB
    have := h.1
    rw [un_tw (by omega)]
    show unO l.length (obsB l) = _
    have e := un_en (fun o ho => h.all ho) []
    rwa [List.append_nil] at e
theorem isP_one {L : List (List UInt8)} {l m : List ObS} (h : IsP L l) (h' : IsP L m) : l = m := by
  obtain ⟨p, q, rfl, -, -, hu, -⟩ := h
  obtain ⟨p', q', e, -, -, hu', -⟩ := h'
  simp only [List.cons.injEq, and_true] at e
  obtain ⟨rfl, rfl⟩ := e
  rw [hu] at hu'
  simp only [Option.some.injEq, Prod.mk.injEq, and_true] at hu'
  exact hu'
end Go.Proofs.YtclieefpnbdbjaaGreat.Gf

namespace Go.Proofs.YtclieefpnbdbjaaGreat.Gf
set_option linter.unusedVariables false
set_option linter.unusedSimpArgs false
open Go.RowKit
open Go.ChangeShapes
/-- a string of bytes -/
def sv (y : List UInt8) : Value := .string ⟨y.toArray⟩
/-- a record's value; what its slice reads as -/
structure RcV where
  r : RcS
  vs : Value
def aggR (c : RcV) : Value := .agg #[.int .i64 c.r.kind, sv c.r.key, .int .i64 c.r.len, c.vs]
structure RcV.In (w : World) (c : RcV) : Prop where
  wk : (Lit.int .i64 c.r.kind).wf = true
  wl : (Lit.int .i64 c.r.len).wf = true
  ky : c.r.key.length ≤ maxLen
  rs : RdI w c.vs c.r.st
  wi : ∀ z ∈ c.r.st, (Lit.int .i64 z).wf = true
theorem RcV.In.below {w w' : World} {c : RcV} (h : c.In w) (hb : Below w.heap.size w w') : c.In w' := ⟨h.wk, h.wl, h.ky, h.rs.below hb, h.wi⟩
/-- an object in memory -/
structure ObV where
  o : ObS
  vs : Value
instance : Inhabited ObV := ⟨⟨default, .slice none 0 0⟩⟩
structure ObAt (w : World) (b off : Nat) (c : ObV) : Prop where
  c0 : w.cell? ⟨b, off, none⟩ = some (sv c.o.key)
  c1 : w.cell? ⟨b, off + 1, none⟩ = some (.int .i64 c.o.len)
  c2 : w.cell? ⟨b, off + 2, none⟩ = some (.int .i64 c.o.ep)
  c3 : w.cell? ⟨b, off + 3, none⟩ = some c.vs
  wl : (Lit.int .i64 c.o.len).wf = true
  we : (Lit.int .i64 c.o.ep).wf = true
  ky : c.o.key.length ≤ maxLen
  rs : RdI w c.vs c.o.st
  wi : ∀ z ∈ c.o.st, (Lit.int .i64 z).wf = true
theorem ObAt.below {w w' : World} {b off : Nat} {c : ObV} (h : ObAt w b off c) (hb : b < w.heap.size) (hw : Below w.heap.size w w') : ObAt w' b off c :=
  ⟨(hw.cell (p := ⟨b, off, none⟩) hb).trans h.c0, (hw.cell (p := ⟨b, off + 1, none⟩) hb).trans h.c1, (hw.cell (p := ⟨b, off + 2, none⟩) hb).trans h.c2, (hw.cell (p := ⟨b, off + 3, none⟩) hb).trans h.c3, h.wl, h.we, h.ky, h.rs.below hw, h.wi⟩
def RdO (w : World) (v : Value) (L : List ObV) : Prop :=
  (∃ ao cap, L = [] ∧ v = .slice ao 0 cap) ∨ (∃ b off cap, L ≠ [] ∧ v = .slice (some ⟨b, off, none⟩) L.length cap ∧ L.length ≤ maxLen ∧ b < w.heap.size ∧ ∀ i, i < L.length → ObAt w b (off + i * 4) (L.getD i default))
theorem RdO.below {w w' : World} {v : Value} {L : List ObV} (h : RdO w v L) (hb : Below w.heap.size w w') : RdO w' v L := by
  rcases h with h | ⟨b, off, cap, h1, h2, h3, h5, h6⟩
  · exact Or.inl h
  · exact Or.inr ⟨b, off, cap, h1, h2, h3, Nat.lt_of_lt_of_le h5 hb.size, fun i hi => (h6 i hi).below h5 hb⟩
theorem RdO.form {w : World} {v : Value} {L : List ObV} (h : RdO w v L) : ∃ a c, v = .slice a L.length c := by
  rcases h with ⟨a, c, rfl, rfl⟩ | ⟨b, off, c, _, rfl, _⟩
  · exact ⟨a, c, rfl⟩
  · exact ⟨_, c, rfl⟩
theorem four16 {cs : List Value} (h : cs.length = 4) : ∃ v0 v1 v2 v3, cs = [v0, v1, v2, v3] := by
  match cs, h with
  | [a, b, c, d], _ => exact ⟨a, b, c, d, rfl⟩
section
variable {H : Type} {enc : TypeId × Value → H} {P : Program} {w : World} {base : Nat} {held : Bool}
theorem open_ints16 {t si : TypeId} {fuel : Nat} {v : Value} {x : DataW H × List MemPlace} (t5 : P.underlying t = some (.slice si)) (ti : P.underlying si = some (.int .i64)) (ci : P.cellsOf si = 1) (q5 : DataW.trod enc P w base (fun _ => true) held fuel t [v] = some x) : ∃ pk, RdI w v pk ∧ ∀ z ∈ pk, (Lit.int .i64 z).wf = true := by
  rcases open_ints t5 ti ci q5 with ⟨hcs, _⟩ | ⟨x5, l5, c5, zs, hcs, _, hl5, hm5, hz, _, hcell, hwz⟩
  · simp at hcs
    subst hcs
    exact ⟨[], Or.inl ⟨none, 0, rfl, rfl⟩, by simp⟩
  · simp at hcs
    subst hcs
    exact rdI_row2 (Or.inr ⟨x5, rfl, hl5, hm5, by simpa using hz, hcell, hwz⟩)
theorem open_rec {r : Reach} {b0 : Nat} {t si : TypeId} {f0 f1 f2 f3 : Field} {v : Value} {d : DataW H} {p : List MemPlace} (hs : P.underlying t = some (.struct #[f0, f1, f2, f3])) (hone : Go.Deep.oneCellFields P #[f0, f1, f2, f3] = true) (hC : P.cellsOf t = 4)
    (t0 : P.underlying f0.type = some (.int .i64)) (t1 : P.underlying f1.type = some .string) (t2 : P.underlying f2.type = some (.int .i64)) (t3 : P.underlying f3.type = some (.slice si)) (ti : P.underlying si = some (.int .i64)) (ci : P.cellsOf si = 1)
    (hv : Value.okWide P w r b0 t v) (h : DataW.Trod enc P w base (fun _ => true) held t v d p) : ∃ c : RcV, v = aggR c ∧ c.In w := by
  obtain ⟨v0, v1, v2, v3, y0, y1, y2, y3, n, rfl, _, _, h0, h1, h2, h3⟩ := Go.Joins.open_agg4 hs hone hC hv h
  obtain ⟨z0, r0, _, w0⟩ := DataW.trod_int t0 h0
  obtain ⟨s, r1, _, ls⟩ := DataW.trod_string t1 h1
  obtain ⟨z2, r2, _, w2⟩ := DataW.trod_int t2 h2
  simp at r0 r1 r2
  subst r0 r1 r2
  obtain ⟨pk, hk, hw⟩ := open_ints16 t3 ti ci h3
  exact ⟨⟨⟨z0, s.data.toList, z2, pk⟩, v3⟩, rfl, w0, w2, by simpa using ls, hk, hw⟩
theorem open_objs {t e si : TypeId} {f0 f1 f2 f3 : Field} {fuel : Nat} {cs : List Value} {x : DataW H × List MemPlace} (ht : P.underlying t = some (.slice e)) (he : P.underlying e = some (.struct #[f0, f1, f2, f3])) (ce : P.cellsOf e = 4)
    (o0 : f0.offset = 0) (o1 : f1.offset = 1) (o2 : f2.offset = 2) (o3 : f3.offset = 3)
    (t0 : P.underlying f0.type = some .string) (t1 : P.underlying f1.type = some (.int .i64)) (t2 : P.underlying f2.type = some (.int .i64)) (t3 : P.underlying f3.type = some (.slice si)) (ti : P.underlying si = some (.int .i64)) (ci : P.cellsOf si = 1)
    (n0 : P.cellsOf f0.type = 1) (n1 : P.cellsOf f1.type = 1) (n2 : P.cellsOf f2.type = 1) (n3 : P.cellsOf f3.type = 1)
    (h : DataW.trod enc P w base (fun _ => true) held fuel t cs = some x) : ∃ a len cap L, cs = [.slice a len cap] ∧ len = L.length ∧ RdO w (.slice a len cap) L := by
  rcases Go.Deep.open_slice ht h with ⟨rfl, _⟩ | ⟨a, len, cap, m, n, D, Pl, rfl, hb, hl, hm, hmm, rfl, hx⟩
  · exact ⟨none, 0, 0, [], rfl, rfl, Or.inl ⟨none, 0, rfl, rfl⟩⟩
  simp only [if_true] at hmm
  by_cases hl0 : len = 0
  · subst hl0
    exact ⟨some a, 0, cap, [], rfl, rfl, Or.inl ⟨_, _, rfl, rfl⟩⟩
  obtain ⟨bb, off, spot⟩ := a
  have hspot : spot = none := by
    obtain ⟨cs', h1, _⟩ := hx 0 (by omega)
    rw [ce] at h1
    have hc := World.cells?_some h1
    have h2 := hc.2.2 0 (by omega)
    obtain ⟨v, hv⟩ : ∃ v, cs'[0]? = some v := ⟨cs'[0]'(by omega), List.getElem?_eq_getElem (by omega)⟩
    rw [hv] at h2
    have := World.cell?_spot h2
    simpa [Addr.add] using this
  subst hspot
  have each : ∀ i, i < len → ∃ c : ObV, ObAt w bb (off + i * 4) c := by
    intro i hi
    obtain ⟨cs', h1, h2⟩ := hx i (by omega)
    obtain ⟨xs, n', _, _, hlen, hxl, hf⟩ := DataW.trod_struct he h2
    rw [ce] at hlen h1
    obtain ⟨v0, v1, v2, v3, rfl⟩ := four16 hlen
    have hxl' : xs.length = 4 := hxl
    have g : ∀ k, k < 4 → ∃ y, xs[k]? = some y := fun k hk => ⟨xs[k], List.getElem?_eq_getElem (by omega)⟩
    obtain ⟨y0, e0⟩ := g 0 (by omega)
    obtain ⟨y1, e1⟩ := g 1 (by omega)
    obtain ⟨y2, e2⟩ := g 2 (by omega)
    obtain ⟨y3, e3⟩ := g 3 (by omega)
    have q0 := hf 0 f0 rfl
    have q1 := hf 1 f1 rfl
    have q2 := hf 2 f2 rfl
    have q3 := hf 3 f3 rfl
    rw [o0, n0, e0] at q0
    rw [o1, n1, e1] at q1
    rw [o2, n2, e2] at q2
    rw [o3, n3, e3] at q3
    obtain ⟨s, r0, _, ls⟩ := DataW.trod_string t0 q0
    obtain ⟨z1, r1, _, w1⟩ := DataW.trod_int t1 q1
    obtain ⟨z2, r2, _, w2⟩ := DataW.trod_int t2 q2
    simp at r0 r1 r2
    subst r0 r1 r2
    obtain ⟨hbase, _, hc⟩ := World.cells?_some h1
    have kk : ∀ k, k < 4 → w.cell? ⟨bb, off + i * 4 + k, none⟩ = [Value.string s, .int .i64 z1, .int .i64 z2, v3][k]? := by
      intro k hk
      have := hc k hk
      rw [Go.Deep.add_add, add_at, ← Nat.add_assoc] at this
      exact this
    obtain ⟨pk, hvk, hwk⟩ := open_ints16 t3 ti ci q3
    exact ⟨⟨⟨s.data.toList, z1, z2, pk⟩, v3⟩, kk 0 (by omega), kk 1 (by omega), kk 2 (by omega), kk 3 (by omega), w1, w2, by simpa using ls, hvk, hwk⟩
  obtain ⟨F, hF⟩ := Go.Deep.choose_lt each
  have hlen : ((List.range len).map F).length = len := by simp
  refine ⟨some ⟨bb, off, none⟩, len, cap, (List.range len).map F, rfl, hlen.symm, ?_⟩
  have hc0 := (hF 0 (by omega)).c0
  have hbw : bb < w.heap.size := by
    unfold World.cell? at hc0
    by_cases hb : bb < w.heap.size
    · exact hb
    · rw [Array.getElem?_eq_none (by show w.heap.size ≤ bb; omega)] at hc0; cases hc0
  refine Or.inr ⟨bb, off, cap, fun e => by rw [e] at hlen; simp at hlen; omega, by rw [hlen], by rw [hlen]; omega, hbw, fun i hi => ?_⟩
  rw [hlen] at hi
  have e1 : ((List.range len).map F).getD i default = F i := by simp [List.getD, hi]
  rw [e1]
  exact hF i hi
end
end Go.Proofs.YtclieefpnbdbjaaGreat.Gf

namespace Go.Proofs.YtclieefpnbdbjaaGreat.Gf
set_option linter.unusedVariables false
set_option linter.unusedSimpArgs false
open Go.RowKit
/-- the order of keys is whole -/
theorem lessK (a b : List UInt8) : Op.bytesLess a b = upK a b := by
  unfold upK
  induction a generalizing b with
  | nil =>
    cases b with
    | nil => rfl
    | cons y b => rfl
  | cons x a ih =>
    cases b with
    | nil => rfl
    | cons y b =>
      unfold Op.bytesLess
      rw [ih b]
      by_cases e : x = y
      · subst e
        simp
      · have e' : ¬ y = x := fun q => e q.symm
        by_cases l : x < y
        · have l' : ¬ y < x := fun q => by have := UInt8.lt_asymm l; exact this q
          simp [e, e', l, l']
        · have l' : y < x := by
            have h1 : x.toNat ≠ y.toNat := fun q => e (UInt8.toNat_inj.1 q)
            have h2 : ¬ x.toNat < y.toNat := fun q => l (UInt8.lt_iff_toNat_lt.2 q)
            exact UInt8.lt_iff_toNat_lt.2 (by omega)
          simp [e, e', l, l']
def oL (L : List ObV) : List ObS := L.map ObV.o
theorem oL_getD (L : List ObV) (i : Nat) : (oL L).getD i default = (L.getD i default).o := by
  unfold oL
  by_cases h : i < L.length
  · simp [List.getD, h]
  · simp [List.getD, Nat.le_of_not_lt h]; rfl
theorem oL_length (L : List ObV) : (oL L).length = L.length := by simp [oL]
def Up16 (L : List ObV) (r : Nat) : Prop := ∀ i, i < r → OkO (L.getD i default).o ∧ (0 < i → upK (L.getD (i - 1) default).o.key (L.getD i default).o.key = true)
theorem up_step {L : List ObV} {r : Nat} (h : Up16 L r) (h1 : OkO (L.getD r default).o) (h2 : 0 < r → upK (L.getD (r - 1) default).o.key (L.getD r default).o.key = true) : Up16 L (r + 1) := fun i hi => by
  by_cases e : i = r
  · subst e; exact ⟨h1, h2⟩
  · exact h i (by omega)
theorem may_up {L : List ObV} : MayL (oL L) ↔ L.length ≤ 64 ∧ Up16 L L.length ∧ cntO (oL L) ≤ 256 := by
  unfold MayL Up16
  rw [oL_length]
  simp only [oL_getD]
theorem cnt_take {L : List ObV} {r : Nat} (h : r < L.length) : cntO ((oL L).take (r + 1)) = cntO ((oL L).take r) + (L.getD r default).o.st.length := by
  have h' : r < (oL L).length := by rw [oL_length]; exact h
  rw [List.take_succ_eq_append_getElem h', cntO_append]
  show _ + ((oL L)[r].st.length + 0) = _
  have e : (oL L)[r] = (L.getD r default).o := by
    rw [← oL_getD, List.getD_eq_getElem?_getD, List.getElem?_eq_getElem h']; rfl
  rw [e]; omega
end Go.Proofs.YtclieefpnbdbjaaGreat.Gf

namespace Go.Proofs.YtclieefpnbdbjaaGreat.Gf
set_option linter.unusedVariables false
set_option linter.unusedSimpArgs false
open Go.RowKit
theorem belR (w : World) (o : Obj) : Below w.heap.size w (w.alloc o) := (Below.refl _ _).alloc (Nat.le_refl _) o
theorem _root_.Go.RowKit.Below.step16 {B : Nat} {a b c : World} (h : Below B a b) (k : Below b.heap.size b c) (hB : B ≤ b.heap.size) : Below B a c := h.trans (k.mono hB)
end Go.Proofs.YtclieefpnbdbjaaGreat.Gf

namespace Go.Proofs.YtclieefpnbdbjaaGreat.Gf
set_option linter.unusedVariables false
set_option linter.unusedSimpArgs false
open Go.RowKit
structure Gro (w : World) (v : Value) (w' : World) (v' : Value) : Prop where
  gr : w.grownBy w' v.ownBlock
  pl : v'.ownBlock = v.ownBlock ∨ ∃ k, v'.ownBlock = some k ∧ w.heap.size ≤ k
theorem Gro.refl (w : World) (v : Value) : Gro w v w v := ⟨World.grownBy.refl _ _, Or.inl rfl⟩
theorem Gro.of {w w' : World} {v v' : Value} (h : w.grownBy w' v.ownBlock) (k : v'.ownBlock = v.ownBlock ∨ v'.ownBlock = some w.heap.size) : Gro w v w' v' :=
  ⟨h, k.imp id fun e => ⟨_, e, Nat.le_refl _⟩⟩
theorem Gro.trans {a b c : World} {u v x : Value} (h : Gro a u b v) (k : Gro b v c x) : Gro a u c x := by
  refine ⟨⟨k.gr.os.trans h.gr.os, k.gr.tape.trans h.gr.tape, k.gr.output.trans h.gr.output, Nat.le_trans h.gr.size k.gr.size, fun i hi hne => ?_⟩, ?_⟩
  · refine (k.gr.block i (Nat.lt_of_lt_of_le hi h.gr.size) fun e => ?_).trans (h.gr.block i hi hne)
    rcases h.pl with q | ⟨j, q, hj⟩
    · exact hne (e.trans q)
    · rw [q] at e
      simp at e
      omega
  · rcases k.pl with q | ⟨j, q, hj⟩
    · rcases h.pl with r | ⟨j, r, hj⟩
      · exact Or.inl (q.trans r)
      · exact Or.inr ⟨j, q.trans r, hj⟩
    · exact Or.inr ⟨j, q, Nat.le_trans h.gr.size hj⟩
theorem Gro.bel {w w' : World} (v : Value) (h : Below w.heap.size w w') : Gro w v w' v := ⟨⟨h.os, h.tape, h.output, h.size, fun k hk _ => h.block k hk⟩, Or.inl rfl⟩
theorem Gro.cell {w w' : World} {v v' : Value} (h : Gro w v w' v') {p : Addr} (hp : p.block < w.heap.size) (hn : v.ownBlock ≠ some p.block) : w'.cell? p = w.cell? p := World.cell?_of_block (w := w) (h.gr.block p.block hp fun e => hn e.symm)
theorem Gro.frozen {w w' : World} {v v' : Value} (h : Gro w v w' v') {p : Addr} (hp : p.block < w.heap.size) (hn : v.ownBlock ≠ some p.block) : w'.frozen? p = w.frozen? p := World.frozen?_of_block (w := w) (h.gr.block p.block hp fun e => hn e.symm)
theorem Gro.ne {w w' : World} {v v' : Value} (h : Gro w v w' v') {b : Nat} (hb : b < w.heap.size) (hn : v.ownBlock ≠ some b) : v'.ownBlock ≠ some b := by
  rcases h.pl with q | ⟨j, q, hj⟩
  · rw [q]; exact hn
  · rw [q]; intro e; simp at e; omega
theorem Gro.below {B e n : Nat} {w0 w w' : World} {v v' : Value} {xs : List Value} (h : Gro w v w' v') (hB : Below B w0 w) (hs : B ≤ w.heap.size) (ho : w.ownsRow B e 1 v n xs) : Below B w0 w' :=
  hB.grown h.gr hs fun q hq => (World.ownsRow.lt ho q hq).1
theorem own_ne {w : World} {B e n : Nat} {v : Value} {xs : List Value} (ho : w.ownsRow B e 1 v n xs) {b : Nat} (hb : w.heap.size ≤ b) : v.ownBlock ≠ some b := fun e => by
  have := (World.ownsRow.lt ho b e).2
  omega
theorem set4 {w : World} {g : Nat} {a b c d x0 x1 x2 x3 : Value} (m0 : w.cell? ⟨g, 0, none⟩ = some x0) (m1 : w.cell? ⟨g, 1, none⟩ = some x1) (m2 : w.cell? ⟨g, 2, none⟩ = some x2) (m3 : w.cell? ⟨g, 3, none⟩ = some x3) :
    Only g w ((((w.setCell ⟨g, 0, none⟩ a).setCell ⟨g, 1, none⟩ b).setCell ⟨g, 2, none⟩ c).setCell ⟨g, 3, none⟩ d) ∧ ((((w.setCell ⟨g, 0, none⟩ a).setCell ⟨g, 1, none⟩ b).setCell ⟨g, 2, none⟩ c).setCell ⟨g, 3, none⟩ d).cell? ⟨g, 0, none⟩ = some a ∧ ((((w.setCell ⟨g, 0, none⟩ a).setCell ⟨g, 1, none⟩ b).setCell ⟨g, 2, none⟩ c).setCell ⟨g, 3, none⟩ d).cell? ⟨g, 1, none⟩ = some b ∧ ((((w.setCell ⟨g, 0, none⟩ a).setCell ⟨g, 1, none⟩ b).setCell ⟨g, 2, none⟩ c).setCell ⟨g, 3, none⟩ d).cell? ⟨g, 2, none⟩ = some c ∧ ((((w.setCell ⟨g, 0, none⟩ a).setCell ⟨g, 1, none⟩ b).setCell ⟨g, 2, none⟩ c).setCell ⟨g, 3, none⟩ d).cell? ⟨g, 3, none⟩ = some d := by
  refine ⟨((((Only.refl _ _).setCell _ _).setCell _ _).setCell _ _).setCell _ _, ?_, ?_, ?_, ?_⟩
  · rw [World.cell?_setCell_other _ _ _ _ (by simp), World.cell?_setCell_other _ _ _ _ (by simp), World.cell?_setCell_other _ _ _ _ (by simp), World.cell?_setCell_same _ _ _ m0]
  · rw [World.cell?_setCell_other _ _ _ _ (by simp), World.cell?_setCell_other _ _ _ _ (by simp), World.cell?_setCell_same _ _ _ ((World.cell?_setCell_other _ _ _ _ (by simp)).trans m1)]
  · rw [World.cell?_setCell_other _ _ _ _ (by simp), World.cell?_setCell_same _ _ _ ((World.cell?_setCell_other _ _ _ _ (by simp)).trans ((World.cell?_setCell_other _ _ _ _ (by simp)).trans m2))]
  · exact World.cell?_setCell_same _ _ _ ((World.cell?_setCell_other _ _ _ _ (by simp)).trans ((World.cell?_setCell_other _ _ _ _ (by simp)).trans ((World.cell?_setCell_other _ _ _ _ (by simp)).trans m3)))
end Go.Proofs.YtclieefpnbdbjaaGreat.Gf

namespace Go.Proofs.YtclieefpnbdbjaaGreat.Gf
set_option linter.unusedVariables false
set_option linter.unusedSimpArgs false
open Go.RowKit
def chR (r : RcS) : Int := if OkR r then 0 else 1
theorem RdI.at16 {w : World} {a : Option Addr} {n c : Nat} {zs : List Int} (h : RdI w (.slice a n c) zs) {i : Nat} (hi : i < zs.length) : ∃ b off, a = some ⟨b, off, none⟩ ∧ w.cell? ⟨b, off + i, none⟩ = some (.int .i64 (zs.getD i 0)) := by
  rcases h with ⟨a', c', rfl, _⟩ | ⟨b, off, c', h1, e, h2, h3, h4⟩
  · simp at hi
  · simp at e
    obtain ⟨rfl, _⟩ := e
    exact ⟨b, off, rfl, h4 i hi⟩
theorem ch_all {st : List Int} (h : ∀ j, j < st.length → 0 ≤ st.getD j 0 ∧ st.getD j 0 < 256) : ∀ s ∈ st, 0 ≤ s ∧ s < 256 := fun s hs => by
  obtain ⟨i, hi, rfl⟩ := List.getElem_of_mem hs
  have e : st.getD i 0 = st[i] := by rw [List.getD_eq_getElem?_getD, List.getElem?_eq_getElem hi]; rfl
  rw [← e]; exact h i hi
end Go.Proofs.YtclieefpnbdbjaaGreat.Gf
