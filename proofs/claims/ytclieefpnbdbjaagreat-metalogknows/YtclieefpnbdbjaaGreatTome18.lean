/- TEXTS JOINED: ReMath, ReSnap, ReObj, ReOL, ReBel, ReChk, ReCA. -/
import Derived.Test.YtclieefpnbdbjaaGreatTome5
import Derived.Deep.Slices
import Derived.Lib.SmallJoins
import Derived.Test.YtclieefpnbdbjaaGreatTome2
namespace Go.Proofs.YtclieefpnbdbjaaGreat.Gf
set_option linter.unusedVariables false
set_option linter.unusedSimpArgs false
open Go.RowKit
/-- a number's two bytes -/
def tw (n : Nat) : List UInt8 := [UInt8.ofNat (n / 256), UInt8.ofNat n]
/-- the number of two bytes -/
def un (p : List UInt8) : Nat := 256 * (co p 0).toNat + (co p 1).toNat
theorem tw_length (n : Nat) : (tw n).length = 2 := rfl
theorem un_lt (p : List UInt8) : un p < 65536 := by
  have h0 := (co p 0).toNat_lt
  have h1 := (co p 1).toNat_lt
  unfold un
  omega
theorem un_tw {n : Nat} (h : n < 65536) (r : List UInt8) : un (tw n ++ r) = n := by
  show 256 * (UInt8.ofNat (n / 256)).toNat + (UInt8.ofNat n).toNat = n
  simp only [UInt8.toNat_ofNat']
  omega
/-- a record: kind, key, length, stripes -/
structure RcS where
  kind : Int
  key : List UInt8
  len : Int
  st : List Int
def OkR (r : RcS) : Prop := (r.kind = 1 ∨ r.kind = 2) ∧ 1 ≤ r.key.length ∧ r.key.length ≤ 64 ∧ 0 ≤ r.len ∧ r.len ≤ 2147483647 ∧ r.st.length ≤ 256 ∧ (∀ s ∈ r.st, 0 ≤ s ∧ s < 256) ∧ (r.kind = 2 → r.len = 0 ∧ r.st.length = 0)
instance (r : RcS) : Decidable (OkR r) := inferInstanceAs (Decidable (_ ∧ _ ∧ _ ∧ _ ∧ _ ∧ _ ∧ _ ∧ _))
/-- stripes' bytes -/
def stB : List Int → List UInt8
  | [] => []
  | s :: l => tw s.toNat ++ stB l
theorem stB_length (l : List Int) : (stB l).length = 2 * l.length := by
  induction l with
  | nil => rfl
  | cons s l ih => show (tw s.toNat ++ stB l).length = _; rw [List.length_append, ih, tw_length, List.length_cons]; omega
theorem stB_append (l m : List Int) : stB (l ++ m) = stB l ++ stB m := by
  induction l with
  | nil => rfl
  | cons s l ih => show tw s.toNat ++ stB (l ++ m) = tw s.toNat ++ stB l ++ stB m; rw [ih, List.append_assoc]
/-- the first n stripes of bytes -/
def stN : Nat → List UInt8 → List Int
  | 0, _ => []
  | n + 1, b => (un b : Int) :: stN n (b.drop 2)
theorem stN_length (n : Nat) (b : List UInt8) : (stN n b).length = n := by
  induction n generalizing b with
  | zero => rfl
  | succ n ih => show ((un b : Int) :: stN n (b.drop 2)).length = _; rw [List.length_cons, ih]
theorem stN_stB (l : List Int) (h : ∀ s ∈ l, 0 ≤ s ∧ s < 256) (r : List UInt8) : stN l.length (stB l ++ r) = l := by
  induction l with
  | nil => rfl
  | cons s l ih =>
    have hs := h s (List.mem_cons_self ..)
    show (un (tw s.toNat ++ stB l ++ r) : Int) :: stN l.length ((tw s.toNat ++ stB l ++ r).drop 2) = s :: l
    rw [List.append_assoc, un_tw (by omega)]
    rw [show (tw s.toNat ++ (stB l ++ r)).drop 2 = stB l ++ r from rfl, ih fun x hx => h x (List.mem_cons_of_mem _ hx)]
    congr 1
    omega
/-- a record's bytes -/
def enR (r : RcS) : List UInt8 := UInt8.ofNat r.kind.toNat :: UInt8.ofNat r.key.length :: (r.key ++ (fo r.len.toNat ++ (tw r.st.length ++ stB r.st)))
theorem enR_length (r : RcS) : (enR r).length = 8 + r.key.length + 2 * r.st.length := by
  unfold enR
  simp only [List.length_cons, List.length_append, fo_length, tw_length, stB_length]
  omega
/-- the record that bytes say they begin with -/
def raR (b : List UInt8) : RcS := ⟨((co b 0).toNat : Nat), (b.drop 2).take (co b 1).toNat, (nu ((b.drop 2).drop (co b 1).toNat) : Nat), stN (un (((b.drop 2).drop (co b 1).toNat).drop 4)) ((((b.drop 2).drop (co b 1).toNat).drop 4).drop 2)⟩
/-- .. is there as much? -/
def LnR (b : List UInt8) : Prop := 2 ≤ b.length ∧ 8 + (co b 1).toNat + 2 * un (((b.drop 2).drop (co b 1).toNat).drop 4) ≤ b.length
instance (b : List UInt8) : Decidable (LnR b) := inferInstanceAs (Decidable (_ ∧ _))
/-- .. what stands behind it -/
def reR (b : List UInt8) : List UInt8 := b.drop (8 + (co b 1).toNat + 2 * un (((b.drop 2).drop (co b 1).toNat).drop 4))
/-- bytes begin with a record -/
def NxR (b : List UInt8) : Prop := LnR b ∧ OkR (raR b)
instance (b : List UInt8) : Decidable (NxR b) := inferInstanceAs (Decidable (_ ∧ _))
theorem nu_fo_app {n : Nat} (h : n < 4294967296) (r : List UInt8) : nu (fo n ++ r) = n := by
  show nu (fo n) = n
  exact nu_fo h
theorem nx_en {r : RcS} (h : OkR r) (rest : List UInt8) : NxR (enR r ++ rest) ∧ raR (enR r ++ rest) = r ∧ reR (enR r ++ rest) = rest := by
  obtain ⟨h1, h2, h3, h4, h5, h6, h7, h8⟩ := h
  obtain ⟨k, y, n, st⟩ := r
  simp only at h1 h2 h3 h4 h5 h6 h7 h8
  have c1 : (co (enR ⟨k, y, n, st⟩ ++ rest) 1).toNat = y.length := by
    show (UInt8.ofNat y.length).toNat = _
    rw [UInt8.toNat_ofNat']; omega
  have c0 : (((co (enR ⟨k, y, n, st⟩ ++ rest) 0).toNat : Nat) : Int) = k := by
    show (((UInt8.ofNat k.toNat).toNat : Nat) : Int) = _
    rw [UInt8.toNat_ofNat']; omega
  have d2 : (enR ⟨k, y, n, st⟩ ++ rest).drop 2 = y ++ (fo n.toNat ++ (tw st.length ++ (stB st ++ rest))) := by
    show (y ++ (fo n.toNat ++ (tw st.length ++ stB st))) ++ rest = _
    simp only [List.append_assoc]
  have d3 : (y ++ (fo n.toNat ++ (tw st.length ++ (stB st ++ rest)))).drop y.length = fo n.toNat ++ (tw st.length ++ (stB st ++ rest)) := List.drop_left
  have d4 : (fo n.toNat ++ (tw st.length ++ (stB st ++ rest))).drop 4 = tw st.length ++ (stB st ++ rest) := rfl
  have d5 : (tw st.length ++ (stB st ++ rest)).drop 2 = stB st ++ rest := rfl
  have er : raR (enR ⟨k, y, n, st⟩ ++ rest) = ⟨k, y, n, st⟩ := by
    unfold raR
    rw [c0, c1, d2, d3, d4, d5, un_tw (by omega), stN_stB st h7, nu_fo_app (by omega), List.take_left]
    congr 1
    omega
  refine ⟨⟨⟨?_, ?_⟩, ?_⟩, er, ?_⟩
  · rw [List.length_append, enR_length]; omega
  · rw [c1, d2, d3, d4, un_tw (by omega), List.length_append, enR_length]
    show 8 + y.length + 2 * st.length ≤ 8 + y.length + 2 * st.length + rest.length
    omega
  · rw [er]; exact ⟨h1, h2, h3, h4, h5, h6, h7, h8⟩
  · unfold reR
    rw [c1, d2, d3, d4, un_tw (by omega)]
    have := enR_length ⟨k, y, n, st⟩
    simp only at this
    rw [← this, List.drop_left]
/-- bytes are a record's -/
def IsR (b : List UInt8) : Prop := NxR b ∧ reR b = []
instance (b : List UInt8) : Decidable (IsR b) := inferInstanceAs (Decidable (_ ∧ _))
theorem isR_en {r : RcS} (h : OkR r) : IsR (enR r) ∧ raR (enR r) = r := by
  have := nx_en h []
  rw [List.append_nil] at this
  exact ⟨⟨this.1, this.2.2⟩, this.2.1⟩
end Go.Proofs.YtclieefpnbdbjaaGreat.Gf

namespace Go.Proofs.YtclieefpnbdbjaaGreat.Gf
set_option linter.unusedVariables false
set_option linter.unusedSimpArgs false
open Go.RowKit
/-- an object: key, length, epoch, stripes -/
structure ObS where
  key : List UInt8
  len : Int
  ep : Int
  st : List Int
instance : Inhabited ObS := ⟨⟨[], 0, 0, []⟩⟩
def putR (o : ObS) : RcS := ⟨1, o.key, o.len, o.st⟩
def OkO (o : ObS) : Prop := OkR (putR o) ∧ 0 ≤ o.ep ∧ o.ep ≤ 2147483647
/-- b stands above a -/
def upK (a b : List UInt8) : Bool := !(Op.bytesLess b a || b == a)
/-- how many stripes all have -/
def cntO : List ObS → Nat
  | [] => 0
  | o :: l => o.st.length + cntO l
theorem cntO_append (l m : List ObS) : cntO (l ++ m) = cntO l + cntO m := by
  induction l with
  | nil => exact (Nat.zero_add _).symm
  | cons o l ih => show o.st.length + cntO (l ++ m) = o.st.length + cntO l + cntO m; rw [ih, Nat.add_assoc]
/-- objects may be -/
def MayL (l : List ObS) : Prop := l.length ≤ 64 ∧ (∀ i, i < l.length → OkO (l.getD i default) ∧ (0 < i → upK (l.getD (i - 1) default).key (l.getD i default).key = true)) ∧ cntO l ≤ 256
theorem MayL.all {l : List ObS} (h : MayL l) {o : ObS} (ho : o ∈ l) : OkO o := by
  obtain ⟨i, hi, rfl⟩ := List.getElem_of_mem ho
  have := (h.2.1 i hi).1
  rwa [List.getD_eq_getElem?_getD, List.getElem?_eq_getElem hi] at this
/-- an object's bytes -/
def obB (o : ObS) : List UInt8 := fo o.ep.toNat ++ enR (putR o)
theorem obB_length (o : ObS) : (obB o).length = 12 + o.key.length + 2 * o.st.length := by
  unfold obB
  rw [List.length_append, fo_length, enR_length]
  show 4 + (8 + o.key.length + 2 * o.st.length) = _
  omega
def obsB : List ObS → List UInt8
  | [] => []
  | o :: l => obB o ++ obsB l
theorem obsB_append (l m : List ObS) : obsB (l ++ m) = obsB l ++ obsB m := by
  induction l with
  | nil => rfl
  | cons o l ih => show obB o ++ obsB (l ++ m) = obB o ++ obsB l ++ obsB m; rw [ih, List.append_assoc]
theorem obsB_le {l : List ObS} (h : ∀ o ∈ l, OkO o) : (obsB l).length ≤ 76 * l.length + 2 * cntO l := by
  induction l with
  | nil => exact Nat.le_refl _
  | cons o l ih =>
    have h1 := ih fun x hx => h x (List.mem_cons_of_mem _ hx)
    have h2 : o.key.length ≤ 64 := (h o (List.mem_cons_self ..)).1.2.2.1
    show (obB o ++ obsB l).length ≤ 76 * (l.length + 1) + 2 * (o.st.length + cntO l)
    rw [List.length_append, obB_length]
    omega
/-- all objects' bytes -/
def snB (l : List ObS) : List UInt8 := tw l.length ++ obsB l
theorem snB_le {l : List ObS} (h : MayL l) : (snB l).length ≤ 5378 := by
  have h1 := obsB_le fun o ho => h.all ho
  have h2 := h.1
  have h3 := h.2.2
  unfold snB
  rw [List.length_append, tw_length]
  omega
/-- .. in two parts -/
def snP (l : List ObS) : List (List UInt8) := [(snB l).take 4096, (snB l).drop 4096]
/-- bytes begin with an object -/
def NxO (b : List UInt8) : Prop := 4 ≤ b.length ∧ NxR (b.drop 4) ∧ nu b ≤ 2147483647 ∧ (raR (b.drop 4)).kind = 1
instance (b : List UInt8) : Decidable (NxO b) := inferInstanceAs (Decidable (_ ∧ _ ∧ _ ∧ _))
def raO (b : List UInt8) : ObS := ⟨(raR (b.drop 4)).key, (raR (b.drop 4)).len, (nu b : Nat), (raR (b.drop 4)).st⟩
def reO (b : List UInt8) : List UInt8 := reR (b.drop 4)
theorem ob_en {o : ObS} (h : OkO o) (r : List UInt8) : NxO (obB o ++ r) ∧ raO (obB o ++ r) = o ∧ reO (obB o ++ r) = r := by
  obtain ⟨h1, h2, h3⟩ := h
  have d : (obB o ++ r).drop 4 = enR (putR o) ++ r := by
    show ((fo o.ep.toNat ++ enR (putR o)) ++ r).drop 4 = _
    rw [List.append_assoc]; rfl
  have e : nu (obB o ++ r) = o.ep.toNat := by
    show nu ((fo o.ep.toNat ++ enR (putR o)) ++ r) = _
    rw [List.append_assoc]; exact nu_fo_app (by omega) _
  obtain ⟨n1, n2, n3⟩ := nx_en h1 r
  refine ⟨⟨?_, by rw [d]; exact n1, by rw [e]; omega, by rw [d, n2]; rfl⟩, ?_, by unfold reO; rw [d]; exact n3⟩
  · rw [List.length_append, obB_length]; omega
  · unfold raO
    rw [d, n2, e]
    obtain ⟨k, n, p, s⟩ := o
    simp only at h2 ⊢
    show (⟨k, n, ((p.toNat : Nat) : Int), s⟩ : ObS) = _
    rw [Int.toNat_of_nonneg h2]
/-- the first n objects of bytes, and what stands behind -/
def unO : Nat → List UInt8 → Option (List ObS × List UInt8)
  | 0, b => some ([], b)
  | n + 1, b => if NxO b then (unO n (reO b)).map (fun x => (raO b :: x.1, x.2)) else none
theorem un_en {l : List ObS} (h : ∀ o ∈ l, OkO o) (r : List UInt8) : unO l.length (obsB l ++ r) = some (l, r) := by
  induction l with
  | nil => rfl
  | cons o l ih =>
    have e := ob_en (h o (List.mem_cons_self ..)) (obsB l ++ r)
    show (if NxO ((obB o ++ obsB l) ++ r) then (unO l.length (reO ((obB o ++ obsB l) ++ r))).map (fun x => (raO ((obB o ++ obsB l) ++ r) :: x.1, x.2)) else none) = _
    rw [List.append_assoc, if_pos e.1, e.2.1, e.2.2, ih fun x hx => h x (List.mem_cons_of_mem _ hx)]
    rfl
/-- parts are cut as they should be -/
def CutP (p q : List UInt8) : Prop := p.length ≤ 4096 ∧ q.length ≤ 4096 ∧ (q = [] ∨ p.length = 4096)
theorem cut_of {b : List UInt8} (h : b.length ≤ 8192) : CutP (b.take 4096) (b.drop 4096) := by
  refine ⟨by rw [List.length_take]; omega, by rw [List.length_drop]; omega, ?_⟩
  by_cases hb : b.length ≤ 4096
  · exact Or.inl (List.drop_eq_nil_of_le hb)
  · exact Or.inr (by rw [List.length_take]; omega)
/-- parts are those of the objects l -/
def IsP (L : List (List UInt8)) (l : List ObS) : Prop := ∃ p q, L = [p, q] ∧ CutP p q ∧ 2 ≤ (p ++ q).length ∧ unO (un (p ++ q)) ((p ++ q).drop 2) = some (l, []) ∧ MayL l
theorem isP_sn {l : List ObS} (h : MayL l) : IsP (snP l) l := by
  have hb := snB_le h
  refine ⟨_, _, rfl, cut_of (by omega), ?_, ?_, h⟩
  · rw [List.take_append_drop]; unfold snB; rw [List.length_append, tw_length]; omega
  · rw [List.take_append_drop]
    unfold snB
    have := h.1
    rw [un_tw (by omega)]
    show unO l.length (obsB l) = _
    have e := un_en (fun o ho => h.all ho) []
    rwa [List.append_nil] at e
theorem isP_one {L : List (List UInt8)} {l m : List ObS} (h : IsP L l) (h' : IsP L m) : l = m := by
  obtain ⟨p, q, rfl, -, -, hu, -⟩ := h
  obtain ⟨p', q', e, -, -, hu', -⟩ := h'
  simp only [List.cons.injEq, and_true] at e
  obtain ⟨rfl, rfl⟩ := e
  rw [hu] at hu'
  simp only [Option.some.injEq, Prod.mk.injEq, and_true] at hu'
  exact hu'
end Go.Proofs.YtclieefpnbdbjaaGreat.Gf

namespace Go.Proofs.YtclieefpnbdbjaaGreat.Gf
set_option linter.unusedVariables false
set_option linter.unusedSimpArgs false
open Go.RowKit
open Go.ChangeShapes
/-- a string of bytes -/
def sv (y : List UInt8) : Value := .string ⟨y.toArray⟩
/-- a record's value; what its slice reads as -/
structure RcV where
  r : RcS
  vs : Value
def aggR (c : RcV) : Value := .agg #[.int .i64 c.r.kind, sv c.r.key, .int .i64 c.r.len, c.vs]
structure RcV.In (w : World) (c : RcV) : Prop where
  wk : (Lit.int .i64 c.r.kind).wf = true
  wl : (Lit.int .i64 c.r.len).wf = true
  ky : c.r.key.length ≤ maxLen
  rs : RdI w c.vs c.r.st
  wi : ∀ z ∈ c.r.st, (Lit.int .i64 z).wf = true
theorem RcV.In.below {w w' : World} {c : RcV} (h : c.In w) (hb : Below w.heap.size w w') : c.In w' := ⟨h.wk, h.wl, h.ky, h.rs.below hb, h.wi⟩
/-- an object in memory -/
structure ObV where
  o : ObS
  vs : Value
instance : Inhabited ObV := ⟨⟨default, .slice none 0 0⟩⟩
structure ObAt (w : World) (b off : Nat) (c : ObV) : Prop where
  c0 : w.cell? ⟨b, off, none⟩ = some (sv c.o.key)
  c1 : w.cell? ⟨b, off + 1, none⟩ = some (.int .i64 c.o.len)
  c2 : w.cell? ⟨b, off + 2, none⟩ = some (.int .i64 c.o.ep)
  c3 : w.cell? ⟨b, off + 3, none⟩ = some c.vs
  wl : (Lit.int .i64 c.o.len).wf = true
  we : (Lit.int .i64 c.o.ep).wf = true
  ky : c.o.key.length ≤ maxLen
  rs : RdI w c.vs c.o.st
  wi : ∀ z ∈ c.o.st, (Lit.int .i64 z).wf = true
theorem ObAt.below {w w' : World} {b off : Nat} {c : ObV} (h : ObAt w b off c) (hb : b < w.heap.size) (hw : Below w.heap.size w w') : ObAt w' b off c :=
  ⟨(hw.cell (p := ⟨b, off, none⟩) hb).trans h.c0, (hw.cell (p := ⟨b, off + 1, none⟩) hb).trans h.c1, (hw.cell (p := ⟨b, off + 2, none⟩) hb).trans h.c2, (hw.cell (p := ⟨b, off + 3, none⟩) hb).trans h.c3, h.wl, h.we, h.ky, h.rs.below hw, h.wi⟩
def RdO (w : World) (v : Value) (L : List ObV) : Prop :=
  (∃ ao cap, L = [] ∧ v = .slice ao 0 cap) ∨ (∃ b off cap, L ≠ [] ∧ v = .slice (some ⟨b, off, none⟩) L.length cap ∧ L.length ≤ maxLen ∧ b < w.heap.size ∧ ∀ i, i < L.length → ObAt w b (off + i * 4) (L.getD i default))
theorem RdO.below {w w' : World} {v : Value} {L : List ObV} (h : RdO w v L) (hb : Below w.heap.size w w') : RdO w' v L := by
  rcases h with h | ⟨b, off, cap, h1, h2, h3, h5, h6⟩
  · exact Or.inl h
  · exact Or.inr ⟨b, off, cap, h1, h2, h3, Nat.lt_of_lt_of_le h5 hb.size, fun i hi => (h6 i hi).below h5 hb⟩
theorem RdO.form {w : World} {v : Value} {L : List ObV} (h : RdO w v L) : ∃ a c, v = .slice a L.length c := by
  rcases h with ⟨a, c, rfl, rfl⟩ | ⟨b, off, c, _, rfl, _⟩
  · exact ⟨a, c, rfl⟩
  · exact ⟨_, c, rfl⟩
end Go.Proofs.YtclieefpnbdbjaaGreat.Gf

namespace Go.Proofs.YtclieefpnbdbjaaGreat.Gf
set_option linter.unusedVariables false
set_option linter.unusedSimpArgs false
open Go.RowKit
/-- the order of keys is whole -/
theorem lessK (a b : List UInt8) : Op.bytesLess a b = upK a b := by
  unfold upK
  induction a generalizing b with
  | nil =>
    cases b with
    | nil => rfl
    | cons y b => rfl
  | cons x a ih =>
    cases b with
    | nil => rfl
    | cons y b =>
      unfold Op.bytesLess
      rw [ih b]
      by_cases e : x = y
      · subst e
        simp
      · have e' : ¬ y = x := fun q => e q.symm
        by_cases l : x < y
        · have l' : ¬ y < x := fun q => by have := UInt8.lt_asymm l; exact this q
          simp [e, e', l, l']
        · have l' : y < x := by
            have h1 : x.toNat ≠ y.toNat := fun q => e (UInt8.toNat_inj.1 q)
            have h2 : ¬ x.toNat < y.toNat := fun q => l (UInt8.lt_iff_toNat_lt.2 q)
            exact UInt8.lt_iff_toNat_lt.2 (by omega)
          simp [e, e', l, l']
def oL (L : List ObV) : List ObS := L.map ObV.o
theorem oL_getD (L : List ObV) (i : Nat) : (oL L).getD i default = (L.getD i default).o := by
  unfold oL
  by_cases h : i < L.length
  · simp [List.getD, h]
  · simp [List.getD, Nat.le_of_not_lt h]; rfl
theorem oL_length (L : List ObV) : (oL L).length = L.length := by simp [oL]
def Up16 (L : List ObV) (r : Nat) : Prop := ∀ i, i < r → OkO (L.getD i default).o ∧ (0 < i → upK (L.getD (i - 1) default).o.key (L.getD i default).o.key = true)
theorem up_step {L : List ObV} {r : Nat} (h : Up16 L r) (h1 : OkO (L.getD r default).o) (h2 : 0 < r → upK (L.getD (r - 1) default).o.key (L.getD r default).o.key = true) : Up16 L (r + 1) := fun i hi => by
  by_cases e : i = r
  · subst e; exact ⟨h1, h2⟩
  · exact h i (by omega)
theorem may_up {L : List ObV} : MayL (oL L) ↔ L.length ≤ 64 ∧ Up16 L L.length ∧ cntO (oL L) ≤ 256 := by
  unfold MayL Up16
  rw [oL_length]
  simp only [oL_getD]
theorem cnt_take {L : List ObV} {r : Nat} (h : r < L.length) : cntO ((oL L).take (r + 1)) = cntO ((oL L).take r) + (L.getD r default).o.st.length := by
  have h' : r < (oL L).length := by rw [oL_length]; exact h
  rw [List.take_succ_eq_append_getElem h', cntO_append]
  show _ + ((oL L)[r].st.length + 0) = _
  have e : (oL L)[r] = (L.getD r default).o := by
    rw [← oL_getD, List.getD_eq_getElem?_getD, List.getElem?_eq_getElem h']; rfl
  rw [e]; omega
end Go.Proofs.YtclieefpnbdbjaaGreat.Gf

namespace Go.Proofs.YtclieefpnbdbjaaGreat.Gf
set_option linter.unusedVariables false
set_option linter.unusedSimpArgs false
open Go.RowKit
theorem belR (w : World) (o : Obj) : Below w.heap.size w (w.alloc o) := (Below.refl _ _).alloc (Nat.le_refl _) o
theorem _root_.Go.RowKit.Below.step16 {B : Nat} {a b c : World} (h : Below B a b) (k : Below b.heap.size b c) (hB : B ≤ b.heap.size) : Below B a c := h.trans (k.mono hB)
end Go.Proofs.YtclieefpnbdbjaaGreat.Gf

namespace Go.Proofs.YtclieefpnbdbjaaGreat.Gf
set_option linter.unusedVariables false
set_option linter.unusedSimpArgs false
open Go.RowKit
def chR (r : RcS) : Int := if OkR r then 0 else 1
theorem RdI.at16 {w : World} {a : Option Addr} {n c : Nat} {zs : List Int} (h : RdI w (.slice a n c) zs) {i : Nat} (hi : i < zs.length) : ∃ b off, a = some ⟨b, off, none⟩ ∧ w.cell? ⟨b, off + i, none⟩ = some (.int .i64 (zs.getD i 0)) := by
  rcases h with ⟨a', c', rfl, _⟩ | ⟨b, off, c', h1, e, h2, h3, h4⟩
  · simp at hi
  · simp at e
    obtain ⟨rfl, _⟩ := e
    exact ⟨b, off, rfl, h4 i hi⟩
theorem ch_all {st : List Int} (h : ∀ j, j < st.length → 0 ≤ st.getD j 0 ∧ st.getD j 0 < 256) : ∀ s ∈ st, 0 ≤ s ∧ s < 256 := fun s hs => by
  obtain ⟨i, hi, rfl⟩ := List.getElem_of_mem hs
  have e : st.getD i 0 = st[i] := by rw [List.getD_eq_getElem?_getD, List.getElem?_eq_getElem hi]; rfl
  rw [← e]; exact h i hi
end Go.Proofs.YtclieefpnbdbjaaGreat.Gf

namespace Go.Proofs.YtclieefpnbdbjaaGreat.Gf
set_option linter.unusedVariables false
set_option linter.unusedSimpArgs false
open Go.RowKit
def OkN (n : Int) : Prop := 0 ≤ n ∧ n ≤ 2147483647
instance (n : Int) : Decidable (OkN n) := inferInstanceAs (Decidable (_ ∧ _))
def OkT16 (st : List Int) : Prop := st.length ≤ 256 ∧ ∀ s ∈ st, 0 ≤ s ∧ s < 256
instance (st : List Int) : Decidable (OkT16 st) := inferInstanceAs (Decidable (_ ∧ _))
set_option maxRecDepth 100000 in
theorem may16_any {n : Int} {w : World} {x : Bool} (hx : decide (OkN n) = x) : Calls Tryz.prog 75 #[.int .i64 n] w fun e w' => e = .returned (.bool x) ∧ w' = w := by
  by_cases h0 : 0 ≤ n
  · by_cases h1 : n ≤ 2147483647
    · obtain rfl : x = true := hx.symm.trans (decide_eq_true ⟨h0, h1⟩)
      clear hx
      have h0' : n ≥ 0 := h0
      go_enter Tryz.func75, Tryz.ntmps75
      go_wp2
      go_ret
      exact ⟨rfl, rfl⟩
    · obtain rfl : x = false := hx.symm.trans (decide_eq_false fun q => h1 q.2)
      clear hx
      have h0' : n ≥ 0 := h0
      go_enter Tryz.func75, Tryz.ntmps75
      go_wp2
      go_ret
      exact ⟨rfl, rfl⟩
  · obtain rfl : x = false := hx.symm.trans (decide_eq_false fun q => h0 q.1)
    clear hx
    have h0' : ¬ n ≥ 0 := h0
    go_enter Tryz.func75, Tryz.ntmps75
    go_wp2
    go_ret
    exact ⟨rfl, rfl⟩
set_option maxRecDepth 100000 in
set_option maxHeartbeats 1000000 in
theorem are16_any {st : List Int} {v : Value} {w : World} (h : RdI w v st) {x : Bool} (hx : decide (OkT16 st) = x) : Calls Tryz.prog 76 #[v] w fun e w' => e = .returned (.bool x) ∧ w' = w := by
  obtain ⟨a, cp, rfl⟩ := h.form
  have HX : Hid (decide (OkT16 st) = x) := hx
  clear hx
  by_cases h6 : (st.length : Int) > 256
  · obtain rfl : x = false := HX.out.symm.trans (decide_eq_false fun q => by have := q.1; omega)
    clear HX h
    go_enter Tryz.func76, Tryz.ntmps76
    go_wp2
    go_ret
    exact ⟨rfl, rfl⟩
  go_enter Tryz.func76, Tryz.ntmps76
  go_wp2
  go_loopw [10] (fun i wr => ∃ r : Nat, r ≤ st.length ∧ i = .int .i64 (r : Int) ∧ wr = w ∧ Hid (∀ j, j < r → 0 ≤ st.getD j 0 ∧ st.getD j 0 < 256)) (fun i _ => st.length - (intOf i).toNat)
  case atStart => exact ⟨0, Nat.zero_le _, rfl, rfl, fun j hj => absurd hj (Nat.not_lt_zero _)⟩
  case round =>
    obtain ⟨r, hr, rfl, rfl, hall⟩ := hrel
    by_cases hlt : r < st.length
    · have hlt' : (r : Int) < (st.length : Int) := by omega
      have hrl : (r : Int) ≤ (st.length : Int) := by omega
      obtain ⟨b, off, e, cz⟩ := h.at16 hlt
      subst e
      have N1 : Hid (st.getD r 0 < 0 ∨ st.getD r 0 ≥ 256 → decide (OkT16 st) = false) := fun q => decide_eq_false fun k => by
        have e : st.getD r 0 = st[r] := by rw [List.getD_eq_getElem?_getD, List.getElem?_eq_getElem hlt]; rfl
        have := k.2 st[r] (List.getElem_mem hlt)
        omega
      have hall2 : Hid (0 ≤ st.getD r 0 → st.getD r 0 < 256 → ∀ j, j < r + 1 → 0 ≤ st.getD j 0 ∧ st.getD j 0 < 256) := fun h0 h1 j hj => by
        by_cases e : j = r
        · rw [e]; exact ⟨h0, h1⟩
        · exact hall.out j (by omega)
      generalize st.getD r 0 = z at cz N1 hall2
      by_cases z0 : z < 0
      · obtain rfl : x = false := HX.out.symm.trans (N1.out (Or.inl z0))
        clear N1 hall2 hall HX
        go_wp2
        go_ret
        exact ⟨rfl, rfl⟩
      by_cases z1 : z ≥ 256
      · obtain rfl : x = false := HX.out.symm.trans (N1.out (Or.inr z1))
        clear N1 hall2 hall HX
        go_wp2
        go_ret
        exact ⟨rfl, rfl⟩
      · have H3 : Hid _ := hall2.out (by omega) (by omega)
        clear N1 hall2 hall
        go_wp2
        go_roundw
        case rel => exact ⟨r + 1, by omega, by go_num, by first | rfl | trivial, H3.out⟩
        case measure => simp [intOf]; omega
    · obtain rfl : r = st.length := by omega
      have hge : ¬ (st.length : Int) < (st.length : Int) := by omega
      obtain rfl : x = true := HX.out.symm.trans (decide_eq_true ⟨by omega, ch_all hall.out⟩)
      clear hall hlt HX
      go_wp2
      go_ret
      exact ⟨rfl, rfl⟩
theorem chR_parts {kd ln : Int} {ky : List UInt8} {st : List Int} (h1 : 1 ≤ ky.length) (h2 : ky.length ≤ 64) (h3 : OkN ln) (h4 : OkT16 st) : chR ⟨kd, ky, ln, st⟩ = if kd = 1 ∨ kd = 2 ∧ ln = 0 ∧ st.length = 0 then 0 else 1 := by
  unfold chR
  by_cases q : kd = 1 ∨ kd = 2 ∧ ln = 0 ∧ st.length = 0
  · rw [if_pos q, if_pos]
    refine ⟨by simp only; omega, h1, h2, h3.1, h3.2, h4.1, h4.2, fun e => ?_⟩
    simp only at e
    simp only
    omega
  · rw [if_neg q, if_neg]
    rintro ⟨k1, -, -, -, -, -, -, k8⟩
    simp only at k1 k8
    apply q
    rcases k1 with k1 | k1
    · exact Or.inl k1
    · exact Or.inr ⟨k1, k8 k1⟩
set_option maxRecDepth 100000 in
set_option maxHeartbeats 2000000 in
theorem chk16_any {w : World} {c : RcV} (h : c.In w) {x : Int} (hx : chR c.r = x) : Calls Tryz.prog 25 #[aggR c] w fun e w' => e = .returned (.int .i64 x) ∧ Below w.heap.size w w' := by
  obtain ⟨⟨kd, ky, ln, st⟩, vs⟩ := c
  have HR := h.rs
  obtain ⟨a, cp, e⟩ := HR.form
  simp only at e HR hx
  subst e
  clear h
  have HX : Hid (chR ⟨kd, ky, ln, st⟩ = x) := hx
  clear hx
  show Calls Tryz.prog 25 #[.agg #[.int .i64 kd, .string ⟨ky.toArray⟩, .int .i64 ln, .slice a st.length cp]] w _
  obtain ⟨w1, hw1⟩ : ∃ w1, w1 = w.alloc (.cells #[.int .i64 kd, .string ⟨ky.toArray⟩, .int .i64 ln, .slice a st.length cp] 38) := ⟨_, rfl⟩
  have B1 : Below w.heap.size w w1 := by rw [hw1]; exact belR _ _
  have c0 : w1.cell? ⟨w.heap.size, 0, none⟩ = some (.int .i64 kd) := by rw [hw1, World.cell?_alloc_new]; rfl
  have c1 : w1.cell? ⟨w.heap.size, 1, none⟩ = some (.string ⟨ky.toArray⟩) := by rw [hw1, World.cell?_alloc_new]; rfl
  have c2 : w1.cell? ⟨w.heap.size, 2, none⟩ = some (.int .i64 ln) := by rw [hw1, World.cell?_alloc_new]; rfl
  have c3 : w1.cell? ⟨w.heap.size, 3, none⟩ = some (.slice a st.length cp) := by rw [hw1, World.cell?_alloc_new]; rfl
  have HR1 := HR.below B1
  clear HR
  by_cases h1 : (ky.length : Int) ≥ 1
  rotate_left
  · obtain rfl : x = 1 := HX.out.symm.trans (if_neg fun q => by have := q.2.1; simp only at this; omega)
    clear HX HR1
    go_enter Tryz.func25, Tryz.ntmps25
    go_wp2_with fail
    rw [← hw1]
    clear hw1
    go_ret
    exact ⟨rfl, B1⟩
  by_cases h2 : (ky.length : Int) ≤ 64
  rotate_left
  · obtain rfl : x = 1 := HX.out.symm.trans (if_neg fun q => by have := q.2.2.1; simp only at this; omega)
    clear HX HR1
    go_enter Tryz.func25, Tryz.ntmps25
    go_wp2_with fail
    rw [← hw1]
    clear hw1
    go_ret
    exact ⟨rfl, B1⟩
  by_cases h3 : OkN ln
  rotate_left
  · obtain rfl : x = 1 := HX.out.symm.trans (if_neg fun q => h3 ⟨q.2.2.2.1, q.2.2.2.2.1⟩)
    clear HX HR1
    go_enter Tryz.func25, Tryz.ntmps25
    go_wp2_with fail
    rw [← hw1]
    clear hw1
    refine (may16_any (decide_eq_false h3)).mono ?_
    rintro _ _ ⟨rfl, rfl⟩
    go_wp2
    go_ret
    exact ⟨rfl, B1⟩
  by_cases h4 : OkT16 st
  rotate_left
  · obtain rfl : x = 1 := HX.out.symm.trans (if_neg fun q => h4 ⟨q.2.2.2.2.2.1, q.2.2.2.2.2.2.1⟩)
    clear HX
    have K4 := are16_any HR1 (decide_eq_false h4)
    go_enter Tryz.func25, Tryz.ntmps25
    go_wp2_with fail
    rw [← hw1]
    clear hw1
    refine (may16_any (decide_eq_true h3)).mono ?_
    rintro _ _ ⟨rfl, rfl⟩
    go_wp2_with fail
    refine K4.mono ?_
    rintro _ _ ⟨rfl, rfl⟩
    clear K4
    go_wp2
    go_ret
    exact ⟨rfl, B1⟩
  have HY : Hid _ := (chR_parts (kd := kd) (by omega) (by omega) h3 h4).symm.trans HX.out
  have K4 := are16_any HR1 (decide_eq_true h4)
  clear HX HR1
  go_enter Tryz.func25, Tryz.ntmps25
  go_wp2_with fail
  rw [← hw1]
  clear hw1
  refine (may16_any (decide_eq_true h3)).mono ?_
  rintro _ _ ⟨rfl, rfl⟩
  go_wp2_with fail
  refine K4.mono ?_
  rintro _ _ ⟨rfl, rfl⟩
  clear K4 h3 h4 h1 h2
  by_cases k1 : kd = 1
  · obtain rfl : x = 0 := HY.out.symm.trans (if_pos (Or.inl k1))
    clear HY
    subst k1
    go_wp2
    go_ret
    exact ⟨rfl, B1⟩
  by_cases k2 : kd = 2
  rotate_left
  · obtain rfl : x = 1 := HY.out.symm.trans (if_neg (by omega))
    clear HY
    go_wp2
    go_ret
    exact ⟨rfl, B1⟩
  by_cases k3 : ln = 0
  rotate_left
  · obtain rfl : x = 1 := HY.out.symm.trans (if_neg (by omega))
    clear HY
    subst k2
    go_wp2
    go_ret
    exact ⟨rfl, B1⟩
  by_cases k4 : (st.length : Int) = 0
  · obtain rfl : x = 0 := HY.out.symm.trans (if_pos (by omega))
    clear HY
    subst k2 k3
    go_wp2
    go_ret
    exact ⟨rfl, B1⟩
  · obtain rfl : x = 1 := HY.out.symm.trans (if_neg (by omega))
    clear HY
    subst k2 k3
    go_wp2
    go_ret
    exact ⟨rfl, B1⟩
end Go.Proofs.YtclieefpnbdbjaaGreat.Gf
