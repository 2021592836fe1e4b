/- TEXTS JOINED: MeUni. -/
import Derived.Test.YtclieefpnbdbjaaGreatTome32
namespace Go.Proofs.YtclieefpnbdbjaaGreat.Gf
set_option linter.unusedVariables false
set_option linter.unusedSimpArgs false
theorem putB_same (f : Int → Option (List UInt8)) (x : Int) (b : List UInt8) : putB (putB f x b) x b = putB f x b := by
  funext y
  unfold putB
  split <;> rfl
theorem over_put (F : Int → Option (List UInt8)) (x : Int) (b : List UInt8) : overB (putB noneI x b) F = putB F x b := by
  funext y
  unfold overB putB noneI
  by_cases e : y = x
  · rw [if_pos e, if_pos e]
  · rw [if_neg e, if_neg e]
theorem over_put2 (F : Int → Option (List UInt8)) (x y : Int) (b c : List UInt8) : overB (putB (putB noneI x b) y c) F = putB (putB F x b) y c := by
  funext z
  unfold overB putB noneI
  by_cases e : z = y
  · rw [if_pos e, if_pos e]
  · rw [if_neg e, if_neg e]
    by_cases e2 : z = x
    · rw [if_pos e2, if_pos e2]
    · rw [if_neg e2, if_neg e2]
theorem flS_at (S : Nat) (F W : Int → Option (List UInt8)) : flS (⟨S, F, W, false⟩ : DkS) = ⟨S, overB W F, noneI, false⟩ := by
  unfold flS
  rw [if_neg (by simp)]
section
variable {a : ArS} {n S : Nat} {F W : Int → Option (List UInt8)}
/-- all disks hold F, and W waits on each -/
structure UniW (a : ArS) (n S : Nat) (F W : Int → Option (List UInt8)) : Prop where
  calm : Calm a
  len : a.D.length = n
  di : ∀ i : Nat, i < n → diA a (i : Int) = ⟨S, F, W, false⟩
theorem uni_new (n S : Nat) : UniW (newA n S) n S noneI noneI := ⟨calm_new n S, by simp [newA], fun i hi => by
  rw [di_nat]
  show (List.replicate n (newD S)).getD i default = _
  simp [List.getD, hi, newD]⟩
theorem uw_put (h : UniW a n S F W) {ad e : Int} {d : List UInt8} (hs : OkSe ad e d.length) (h1 : ad < (S : Int)) : (wvP a ad e d).cr = false ∧ (wvP a ad e d).n = n ∧ UniW (wvP a ad e d).st n S F (putB W ad (pkS ad.toNat e.toNat d)) := by
  have okb := okB_pk hs
  have eP : wvP a ad e d = puV a ad (pkS ad.toNat e.toNat d) (fun _ => true) a.D.length := if_pos hs
  obtain ⟨p1, p2, p3, p4⟩ := pu_calm (ad := ad) (b := pkS ad.toNat e.toNat d) h.calm (tO := fun _ => true) a.D.length (Nat.le_refl _)
  have w0 : ∀ i, i < n → wrX (diA a (i : Int)) ad (pkS ad.toNat e.toNat d) = 0 := fun i hi => by
    rw [h.di i hi]
    exact wrX_ok (d := ⟨S, F, W, false⟩) rfl hs.1.1 h1 okb
  rw [eP]
  refine ⟨p1, ?_, p2, by rw [puV_len, h.len], fun i hi => ?_⟩
  · rw [p3, h.len, cnt_full fun i hi => ?_]
    show (true && decide _) = true
    rw [decide_eq_true (w0 i hi)]; rfl
  · rw [p4 i, if_pos ⟨by rw [h.len]; exact hi, rfl⟩, h.di i hi]
    exact wrS_at (d := ⟨S, F, W, false⟩) rfl hs.1.1 h1 okb
theorem uw_flush (h : UniW a n S F W) : flAX a = 0 ∧ UniW (flAS a) n S (overB W F) noneI := by
  have e : flAS a = { a with D := a.D.map flS } := if_neg (by rw [h.calm.1]; decide)
  refine ⟨if_neg (by rw [h.calm.1]; decide), by rw [e]; exact h.calm, by rw [e]; simpa using h.len, fun i hi => ?_⟩
  have hi' : i < a.D.length := by rw [h.len]; exact hi
  have k := h.di i hi
  rw [di_nat] at k
  rw [e, di_nat]
  show (a.D.map flS).getD i default = _
  rw [show (a.D.map flS).getD i default = flS (a.D.getD i default) by simp [List.getD, hi'], k]
  exact flS_at S F W
/-- behind a write of one disk, where no crash is to come -/
theorem wr_di (hc : Calm a) {i ad : Int} {b : List UInt8} : Calm (wrAS a i ad b) ∧ ∀ j : Nat, j < a.D.length → diA (wrAS a i ad b) (j : Int) = if i = (j : Int) then wrS (diA a (j : Int)) ad b else diA a (j : Int) := by
  by_cases ht : thA a i
  · by_cases hx : wrX (diA a i) ad b = 0
    · have e := (wr_set (ad := ad) (b := b) hc ht hx).2
      rw [e]
      refine ⟨hc, fun j hj => ?_⟩
      rw [diA_set ht _ (by omega)]
      by_cases q : i = (j : Int)
      · rw [if_pos q.symm, if_pos q, q]
      · rw [if_neg (fun k => q k.symm), if_neg q]
    · have e : wrAS a i ad b = a := by unfold wrAS; rw [if_neg (by rw [hc.1]; decide), if_pos ht, if_neg hx]
      rw [e]
      refine ⟨hc, fun j hj => ?_⟩
      by_cases q : i = (j : Int)
      · rw [if_pos q, ← q, wrS_same hx]
      · rw [if_neg q]
  · have e : wrAS a i ad b = a := by unfold wrAS; rw [if_neg (by rw [hc.1]; decide), if_neg ht]
    rw [e]
    exact ⟨hc, fun j hj => by rw [if_neg (fun q => ht ⟨by omega, by omega⟩)]⟩
theorem wrS_twice (d : DkS) (ad : Int) (b : List UInt8) : wrS (wrS d ad b) ad b = wrS d ad b := by
  by_cases h : faX d ad = 0 ∧ OkB b
  · have e : wrS d ad b = { d with wait := putB d.wait ad b } := if_pos h
    rw [e]
    have e2 : wrS ({ d with wait := putB d.wait ad b } : DkS) ad b = { d with wait := putB (putB d.wait ad b) ad b } := if_pos h
    rw [e2, putB_same]
  · have e : wrS d ad b = d := if_neg h
    rw [e, e]
/-- the label on those disks that are asked for -/
theorem lb_calm (hc : Calm a) {l : List Int} : ∀ r, r ≤ l.length → (lbV a l r).cr = false ∧ Calm (lbV a l r).st ∧ ∀ j : Nat, j < a.D.length → diA (lbV a l r).st (j : Int) = if (j : Int) ∈ l.take r then wrS (diA a (j : Int)) 0 lbB else diA a (j : Int)
  | 0, _ => ⟨rfl, hc, fun j _ => by rw [if_neg (by simp)]; rfl⟩
  | r + 1, hr => by
    obtain ⟨h1, h2, h3⟩ := lb_calm hc (l := l) r (by omega)
    have hx : ¬ wrAX (lbV a l r).st (l.getD r 0) 0 lbB = 130 := by rw [wrAX_crash, h2.1]; decide
    rw [lb_go h1 hx]
    obtain ⟨k1, k2⟩ := wr_di (i := l.getD r 0) (ad := 0) (b := lbB) h2
    refine ⟨rfl, k1, fun j hj => ?_⟩
    show diA (wrAS _ _ _ _) _ = _
    rw [k2 j (by rw [lbV_len]; exact hj), h3 j hj]
    have hm : (j : Int) ∈ l.take (r + 1) ↔ ((j : Int) ∈ l.take r ∨ l.getD r 0 = (j : Int)) := by
      rw [List.take_succ_eq_append_getElem (by omega), List.mem_append, List.mem_singleton]
      have : l.getD r 0 = l[r] := by simp [List.getD, show r < l.length by omega]
      rw [this]
      exact ⟨Or.imp id Eq.symm, Or.imp id Eq.symm⟩
    by_cases q : l.getD r 0 = (j : Int)
    · rw [if_pos q, if_pos (hm.2 (Or.inr q))]
      split
      · rw [wrS_twice]
      · rfl
    · rw [if_neg q]
      by_cases q2 : (j : Int) ∈ l.take r
      · rw [if_pos q2, if_pos (hm.2 (Or.inl q2))]
      · rw [if_neg q2, if_neg fun k => (hm.1 k).elim q2 q]
theorem lb_end (hc : Calm a) {l : List Int} : lbX a l = 0 ∧ Calm (lbS a l) ∧ (lbS a l).D.length = a.D.length ∧ ∀ j : Nat, j < a.D.length → diA (lbS a l) (j : Int) = flS (if (j : Int) ∈ l then wrS (diA a (j : Int)) 0 lbB else diA a (j : Int)) := by
  obtain ⟨h1, h2, h3⟩ := lb_calm hc (l := l) l.length (Nat.le_refl _)
  rw [List.take_length] at h3
  have e : flAS (lbV a l l.length).st = { (lbV a l l.length).st with D := (lbV a l l.length).st.D.map flS } := if_neg (by rw [h2.1]; decide)
  unfold lbX lbS
  rw [h1, if_neg (by decide), if_neg (by decide)]
  refine ⟨if_neg (by rw [h2.1]; decide), by rw [e]; exact h2, by rw [flAS_len, lbV_len], fun j hj => ?_⟩
  have hj' : j < (lbV a l l.length).st.D.length := by rw [lbV_len]; exact hj
  rw [← h3 j hj, e, di_nat, di_nat]
  show ((lbV a l l.length).st.D.map flS).getD j default = _
  simp [List.getD, hj']
/-- all disks labelled -/
theorem uni_label {n S : Nat} (hS : 1 ≤ S) : UniW (lbS (newA n S) ((List.range n).map fun (i : Nat) => (i : Int))) n S (putB noneI 0 lbB) noneI := by
  obtain ⟨_, h2, h3, h4⟩ := lb_end (calm_new n S) (l := (List.range n).map fun (i : Nat) => (i : Int))
  have hl : (newA n S).D.length = n := by simp [newA]
  refine ⟨h2, by rw [h3, hl], fun i hi => ?_⟩
  have u := (uni_new n S).di i hi
  have m : (i : Int) ∈ (List.range n).map fun (i : Nat) => (i : Int) := List.mem_map.2 ⟨i, List.mem_range.2 hi, rfl⟩
  rw [h4 i (by rw [hl]; exact hi), if_pos m, u, wrS_at (d := ⟨S, noneI, noneI, false⟩) rfl (by decide) (by show (0 : Int) < (S : Int); omega) lb_okb]
  show flS (⟨S, noneI, putB noneI 0 lbB, false⟩ : DkS) = _
  rw [flS_at, over_put]
/-- who knows, behind a label alone -/
theorem kn_iff (hc : Calm a) {i : Nat} (hi : i < a.D.length) : knF a i = decide (rdB (diA a (i : Int)) 0 = lbB) := by
  have ht : thA a (i : Int) := ⟨by omega, by omega⟩
  unfold knF
  rw [rd_at hc.1 ht, rdAX_at hc.1 ht]
  by_cases q : rdB (diA a (i : Int)) 0 = lbB
  · have hf := (rdB_some q (fun k => by have := congrArg List.length k; rw [show lbB = pkS 0 0 [76] from rfl, pk_length] at this; simp at this)).1
    rw [decide_eq_true q, decide_eq_true hf, beq_iff_eq.2 q]
    rfl
  · rw [decide_eq_false q, beq_eq_false_iff_ne.2 q, Bool.and_false]
end
/-- MetalogKnows: failures, replacements, changed bytes, one behind the other -/
def fkA (a : ArS) (l : List Int) : Nat → ArS
  | 0 => a
  | r + 1 => faAS (fkA a l r) (l.getD r 0)
def rkA (a : ArS) (l : List Int) : Nat → ArS
  | 0 => a
  | r + 1 => rpAS (rkA a l r) (l.getD r 0)
def ckA (a : ArS) (l : List Int) : Nat → ArS
  | 0 => a
  | r + 1 => if l.getD r 0 ∈ l.take r then ckA a l r else coAS (ckA a l r) (l.getD r 0) 0 (r : Int) 1
section
variable {a : ArS} {l : List Int}
theorem mem_take_succ {l : List Int} {r : Nat} (h : r < l.length) {x : Int} : x ∈ l.take (r + 1) ↔ (x ∈ l.take r ∨ l.getD r 0 = x) := by
  rw [List.take_succ_eq_append_getElem h, List.mem_append, List.mem_singleton]
  have : l.getD r 0 = l[r] := by simp [List.getD, h]
  rw [this]
  exact ⟨Or.imp id Eq.symm, Or.imp id Eq.symm⟩
theorem fk_at (hc : Calm a) : ∀ r, r ≤ l.length → Calm (fkA a l r) ∧ (fkA a l r).D.length = a.D.length ∧ ∀ j : Nat, j < a.D.length → diA (fkA a l r) (j : Int) = if (j : Int) ∈ l.take r then faS (diA a (j : Int)) else diA a (j : Int)
  | 0, _ => ⟨hc, rfl, fun j _ => by rw [if_neg (by simp)]; rfl⟩
  | r + 1, hr => by
    obtain ⟨h1, h2, h3⟩ := fk_at hc r (by omega)
    have hm := fun x => @mem_take_succ l r (by omega) x
    unfold fkA faAS
    by_cases ht : thA (fkA a l r) (l.getD r 0)
    · rw [if_pos ht]
      refine ⟨h1, by show (setA _ _ _).D.length = _; rw [setA_len, h2], fun j hj => ?_⟩
      rw [diA_born, diA_set ht _ (by omega)]
      by_cases q : l.getD r 0 = (j : Int)
      · rw [if_pos q.symm, if_pos ((hm _).2 (Or.inr q)), q, h3 j hj]
        split
        · rfl
        · rfl
      · rw [if_neg fun k => q k.symm, h3 j hj]
        by_cases q2 : (j : Int) ∈ l.take r
        · rw [if_pos q2, if_pos ((hm _).2 (Or.inl q2))]
        · rw [if_neg q2, if_neg fun k => ((hm _).1 k).elim q2 q]
    · rw [if_neg ht]
      refine ⟨h1, h2, fun j hj => ?_⟩
      have q : ¬ l.getD r 0 = (j : Int) := fun q => ht ⟨by omega, by omega⟩
      rw [h3 j hj]
      by_cases q2 : (j : Int) ∈ l.take r
      · rw [if_pos q2, if_pos ((hm _).2 (Or.inl q2))]
      · rw [if_neg q2, if_neg fun k => ((hm _).1 k).elim q2 q]
theorem rk_at (hc : Calm a) : ∀ r, r ≤ l.length → Calm (rkA a l r) ∧ (rkA a l r).D.length = a.D.length ∧ ∀ j : Nat, j < a.D.length → diA (rkA a l r) (j : Int) = if (j : Int) ∈ l.take r then reS (diA a (j : Int)) else diA a (j : Int)
  | 0, _ => ⟨hc, rfl, fun j _ => by rw [if_neg (by simp)]; rfl⟩
  | r + 1, hr => by
    obtain ⟨h1, h2, h3⟩ := rk_at hc r (by omega)
    have hm := fun x => @mem_take_succ l r (by omega) x
    unfold rkA rpAS
    by_cases ht : thA (rkA a l r) (l.getD r 0)
    · rw [if_pos ht]
      refine ⟨h1, by show (setA _ _ _).D.length = _; rw [setA_len, h2], fun j hj => ?_⟩
      rw [diA_born, diA_set ht _ (by omega)]
      by_cases q : l.getD r 0 = (j : Int)
      · rw [if_pos q.symm, if_pos ((hm _).2 (Or.inr q)), q, h3 j hj]
        split
        · rfl
        · rfl
      · rw [if_neg fun k => q k.symm, h3 j hj]
        by_cases q2 : (j : Int) ∈ l.take r
        · rw [if_pos q2, if_pos ((hm _).2 (Or.inl q2))]
        · rw [if_neg q2, if_neg fun k => ((hm _).1 k).elim q2 q]
    · rw [if_neg ht]
      refine ⟨h1, h2, fun j hj => ?_⟩
      have q : ¬ l.getD r 0 = (j : Int) := fun q => ht ⟨by omega, by omega⟩
      rw [h3 j hj]
      by_cases q2 : (j : Int) ∈ l.take r
      · rw [if_pos q2, if_pos ((hm _).2 (Or.inl q2))]
      · rw [if_neg q2, if_neg fun k => ((hm _).1 k).elim q2 q]
/-- a byte of the label that is another one -/
theorem lb_hurt {d : DkS} {at_ : Int} (h : rdB d 0 = lbB) : rdB (coS d 0 at_ 1) 0 ≠ lbB := by
  have hne : lbB ≠ [] := fun k => by have := congrArg List.length k; rw [show lbB = pkS 0 0 [76] from rfl, pk_length] at this; simp at this
  obtain ⟨g1, g2⟩ := rdB_some h hne
  rw [rdB_co g1 g2]
  intro k
  have hl : 0 < lbB.length := List.length_pos_iff.2 hne
  have hu : OkUe 0 (chB lbB at_ 1) := by
    rw [k]
    exact (ok_pk lb_ok).1
  unfold chB at hu
  refine pk_tells (o := 0) lb_ok (t := atN at_ lbB.length) (y := co lbB (atN at_ lbB.length) ^^^ 1) (Nat.mod_lt _ hl) (fun u => ?_) hu
  have e2 := congrArg (fun x => co lbB (atN at_ lbB.length) ^^^ x) u
  rw [show pkS (0 : Int).toNat (0 : Int).toNat [76] = lbB from rfl] at e2
  simp only [← UInt8.xor_assoc, UInt8.xor_self, UInt8.zero_xor] at e2
  exact absurd e2 (by decide)
theorem nil_hurt {d : DkS} {at_ : Int} {y : UInt8} (h : rdB d 0 = []) (ok : d.Ok) : rdB (coS d 0 at_ y) 0 = [] := by
  by_cases hf : faX d 0 = 0
  · cases q : atD d 0 with
    | none =>
      have e : coS d 0 at_ y = d := by
        unfold coS
        rw [if_pos hf]
        unfold atD at q
        cases hw : d.wait 0 with
        | some b => rw [hw] at q; cases q
        | none =>
          rw [hw] at q
          have q' : d.last 0 = none := q
          simp only [q']
      rw [e]; exact h
    | some b =>
      have : rdB d 0 = b := by unfold rdB; rw [if_pos hf, q]; rfl
      rw [h] at this
      subst this
      exfalso
      unfold atD at q
      cases hw : d.wait 0 with
      | some b => rw [hw] at q; have := (ok.iw 0 b hw).2.2.1; simp at q; subst q; simp at this
      | none => rw [hw] at q; have := (ok.il 0 _ q).2.2.1; simp at this
  · have e : coS d 0 at_ y = d := if_neg hf
    rw [e]; exact h
theorem ck_at (hc : Calm a) (ok : a.Ok) (h : ∀ j : Nat, j < a.D.length → rdB (diA a (j : Int)) 0 = lbB ∨ rdB (diA a (j : Int)) 0 = []) : ∀ r, r ≤ l.length → Calm (ckA a l r) ∧ (ckA a l r).D.length = a.D.length ∧ (ckA a l r).Ok ∧ ∀ j : Nat, j < a.D.length → ((j : Int) ∉ l.take r → diA (ckA a l r) (j : Int) = diA a (j : Int)) ∧ ((j : Int) ∈ l.take r → rdB (diA (ckA a l r) (j : Int)) 0 ≠ lbB)
  | 0, _ => ⟨hc, rfl, ok, fun j _ => ⟨fun _ => rfl, fun k => by simp at k⟩⟩
  | r + 1, hr => by
    obtain ⟨h1, h2, h4, h3⟩ := ck_at hc ok h r (by omega)
    have hm := fun x => @mem_take_succ l r (by omega) x
    unfold ckA
    by_cases q0 : l.getD r 0 ∈ l.take r
    · rw [if_pos q0]
      refine ⟨h1, h2, h4, fun j hj => ⟨fun k => (h3 j hj).1 fun k2 => k ((hm _).2 (Or.inl k2)), fun k => ?_⟩⟩
      rcases (hm _).1 k with k2 | k2
      · exact (h3 j hj).2 k2
      · rw [k2] at q0; exact (h3 j hj).2 q0
    · rw [if_neg q0]
      refine ⟨?_, ?_, coAS_ok h4 _ _ _ _, fun j hj => ?_⟩
      · unfold coAS; split
        · exact h1
        · exact h1
      · unfold coAS; split
        · rw [setA_len, h2]
        · exact h2
      · unfold coAS
        by_cases ht : thA (ckA a l r) (l.getD r 0)
        · rw [if_pos ht, diA_set ht _ (by omega)]
          by_cases q : l.getD r 0 = (j : Int)
          · rw [if_pos q.symm]
            have nj : (j : Int) ∉ l.take r := by rw [← q]; exact q0
            have e := (h3 j hj).1 nj
            refine ⟨fun k => absurd ((hm _).2 (Or.inr q)) k, fun _ => ?_⟩
            rw [q, e]
            rcases h j hj with x | x
            · exact lb_hurt x
            · have okd : (diA a (j : Int)).Ok := ok.each _ (di_mem ⟨by omega, by omega⟩)
              rw [nil_hurt x okd]
              intro k
              have := congrArg List.length k
              rw [show lbB = pkS 0 0 [76] from rfl, pk_length] at this
              simp at this
          · rw [if_neg fun k => q k.symm]
            exact ⟨fun k => (h3 j hj).1 fun k2 => k ((hm _).2 (Or.inl k2)), fun k => (h3 j hj).2 (((hm _).1 k).resolve_right q)⟩
        · rw [if_neg ht]
          have q : ¬ l.getD r 0 = (j : Int) := fun q => ht ⟨by omega, by omega⟩
          exact ⟨fun k => (h3 j hj).1 fun k2 => k ((hm _).2 (Or.inl k2)), fun k => (h3 j hj).2 (((hm _).1 k).resolve_right q)⟩
/-- what MetalogKnows asks -/
theorem knows_all {n : Nat} (hn : 1 ≤ n) (hn2 : n ≤ 32) {lb fa re hu : List Int} : ∀ i : Nat, i < n →
    knF (ckA (rkA (fkA (lbS (newA n 4) lb) fa fa.length) re re.length) hu hu.length) i = (decide ((i : Int) ∈ lb) && (!decide ((i : Int) ∈ fa) && (!decide ((i : Int) ∈ re) && !decide ((i : Int) ∈ hu)))) := by
  intro i hi
  obtain ⟨_, c1, l1, d1⟩ := lb_end (calm_new n 4) (l := lb)
  have hl : (newA n 4).D.length = n := by simp [newA]
  rw [hl] at l1 d1
  obtain ⟨c2, l2, d2⟩ := fk_at (l := fa) c1 fa.length (Nat.le_refl _)
  rw [l1] at l2 d2
  obtain ⟨c3, l3, d3⟩ := rk_at (l := re) c2 re.length (Nat.le_refl _)
  rw [l2] at l3 d3
  rw [List.take_length] at d2 d3
  have ok1 : (lbS (newA n 4) lb).Ok := lbS_ok (newA_ok hn hn2 (by decide) (by decide))
  have okf : ∀ r, (fkA (lbS (newA n 4) lb) fa r).Ok := fun r => by
    induction r with
    | zero => exact ok1
    | succ r ih => exact faAS_ok ih _
  have okr : ∀ r, (rkA (fkA (lbS (newA n 4) lb) fa fa.length) re r).Ok := fun r => by
    induction r with
    | zero => exact okf _
    | succ r ih => exact rpAS_ok ih _
  have base : ∀ j : Nat, j < n → rdB (diA (rkA (fkA (lbS (newA n 4) lb) fa fa.length) re re.length) (j : Int)) 0 = if (j : Int) ∈ lb ∧ (j : Int) ∉ fa ∧ (j : Int) ∉ re then lbB else [] := fun j hj => by
    have r0 : ∀ d : DkS, rdB (reS d) 0 = [] := fun d => by unfold rdB; split <;> rfl
    have f0 : ∀ d : DkS, rdB (faS d) 0 = [] := fun d => by unfold rdB; split <;> rfl
    rw [d3 j hj]
    by_cases q1 : (j : Int) ∈ re
    · rw [if_pos q1, if_neg (fun k => k.2.2 q1), r0]
    · rw [if_neg q1, d2 j hj]
      by_cases q2 : (j : Int) ∈ fa
      · rw [if_pos q2, if_neg (fun k => k.2.1 q2), f0]
      · rw [if_neg q2, d1 j hj]
        have u := (uni_new n 4).di j hj
        by_cases q3 : (j : Int) ∈ lb
        · rw [if_pos q3, if_pos ⟨q3, q2, q1⟩, u, wrS_at (d := ⟨4, noneI, noneI, false⟩) rfl (by decide) (by decide) lb_okb]
          have e : flS ({ s := 4, last := noneI, wait := putB noneI 0 lbB, dead := false } : DkS) = ⟨4, putB noneI 0 lbB, noneI, false⟩ := by
            rw [flS_at, over_put]
          rw [e]
          unfold rdB
          rw [if_pos (faX_ok (d := ⟨4, putB noneI 0 lbB, noneI, false⟩) rfl (by decide))]
          rfl
        · rw [if_neg q3, if_neg (fun k => q3 k.1), u]
          have e : flS ({ s := 4, last := noneI, wait := noneI, dead := false } : DkS) = ⟨4, noneI, noneI, false⟩ := flS_at 4 noneI noneI
          rw [e]
          unfold rdB
          split <;> rfl
  obtain ⟨c4, l4, _, d4⟩ := ck_at (l := hu) c3 (okr _) (fun j hj => by rw [l3] at hj; rw [base j hj]; split <;> simp) hu.length (Nat.le_refl _)
  rw [l3] at l4 d4
  rw [List.take_length] at d4
  rw [kn_iff c4 (by rw [l4]; exact hi)]
  by_cases q : (i : Int) ∈ hu
  · rw [decide_eq_false ((d4 i hi).2 q), decide_eq_true q]
    simp
  · rw [(d4 i hi).1 q, base i hi, decide_eq_false q]
    have hne : ¬ ([] : List UInt8) = lbB := fun k => by have := congrArg List.length k; rw [show lbB = pkS 0 0 [76] from rfl, pk_length] at this; simp at this
    by_cases q1 : (i : Int) ∈ lb
    · by_cases q2 : (i : Int) ∈ fa
      · rw [if_neg (fun k => k.2.1 q2), decide_eq_false hne, decide_eq_true q2]; simp
      · by_cases q3 : (i : Int) ∈ re
        · rw [if_neg (fun k => k.2.2 q3), decide_eq_false hne, decide_eq_true q3]; simp
        · rw [if_pos ⟨q1, q2, q3⟩, decide_eq_true rfl, decide_eq_true q1, decide_eq_false q2, decide_eq_false q3]; rfl
    · rw [if_neg (fun k => q1 k.1), decide_eq_false hne, decide_eq_false q1]; rfl
end
end Go.Proofs.YtclieefpnbdbjaaGreat.Gf
