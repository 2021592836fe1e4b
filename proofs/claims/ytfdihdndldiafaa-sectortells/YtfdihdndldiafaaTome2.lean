/- TEXTS JOINED: CrLawM, SeMath, PoOnl, MxTurn, TuLm, CrRef, CrCode, PoSame, BkBeq. -/
import Derived.Test.YtfdihdndldiafaaTome1
import Derived.Deep.AppendLies
import Derived.Laws.CopyOwn
import Derived.WalkMore
import Derived.Laws.BytesArg
/-
  SMALL FACTS OF LAYER 4's STATEMENTS: numbers of 32 bits that came in; lists of which one byte is another one.
-/




namespace Go.Proofs.Ytfdihdndldiafaa.Gf
set_option linter.unusedVariables false
set_option linter.unusedSimpArgs false
open Go.RowKit

theorem u32_nat {x : Int} (h : (Lit.int .u32 x).wf = true) : ∃ s : Nat, s < 4294967296 ∧ x = (s : Int) := by
  have := bounds_u32 h
  exact ⟨x.toNat, by omega, by omega⟩
theorem u8_nat {x : Int} (h : (Lit.int .u8 x).wf = true) : ∃ a : UInt8, x = ((a.toNat : Nat) : Int) := by
  have := bounds_u8 h
  exact ⟨UInt8.ofNat x.toNat, by rw [ofNat_u8 (by omega)]; omega⟩

theorem wpList_wanted {P : Program} {ops : Array Oper} {Q : Exit → Act → World → Prop} {a : Act} {w : World} {rest : List Oper} {o : Oper} (hw : Region.wanted o (yielded ops a.tmps) = true)
    (h : ∀ K : Act → World → Prop, (∀ a w, wpList P ops Q rest a w → K a w) → o.wp P a w K Q) : wpList P ops Q (o :: rest) a w :=
  wpList_step fun K hK => by rw [if_pos hw]; exact h K hK
/-- 'append(s, p...)' where it is guarded -/
theorem wpList_append_rdg {P : Program} (w : World) {ops : Array Oper} {rest : List Oper} {o : Oper} {a : Act} {Q : Exit → Act → World → Prop} (hw : Region.wanted o (yielded ops a.tmps) = true) (s x : Operand) (t : TypeId)
    (ho : o.op = .call { callee := .builtin .append, args := #[s, x], argTypes := #[t, t] })
    (base : Nat) (e : TypeId) (i : TypeInfo) (ht : P.underlying t = some (.slice e)) (hi : P.info? e = some i) (hz : i.zero = some (.int .u8 0)) (hsize : i.size = 1) (hby : i.bytes = 1)
    (v : Value) (n : Nat) (xs : List Value) (hs : a.eval s = v) (hown : w.ownsRow base e 1 v n xs) (va : Value) (p : List UInt8) (hx : a.eval x = va) (hr : Rd w va p) (hl : n + p.length ≤ 1000000) (hbase : base ≤ w.heap.size)
    (h : ∀ v' w', w'.ownsRow base e 1 v' (n + p.length) (xs ++ p.map vb) → w.grownBy w' v.ownBlock → wpList P ops Q rest (a.put o.dst v') w') : wpList P ops Q (o :: rest) a w := by
  have hrun : ∃ v' w', (Builtin.append_ #[t, t] o.type #[v, va]).run P w = .ok v' w' ∧ w'.ownsRow base e 1 v' (n + p.length) (xs ++ p.map vb) ∧ w.grownBy w' v.ownBlock := by
    rcases hr with ⟨ao, cap, rfl, rfl, hc, hn⟩ | ⟨b, off, cap, hp0, rfl, h1, h2, h3, hpc⟩
    · rcases ao with _ | ad
      · have := hn rfl
        subst this
        exact ⟨v, w, run_append_owned_none (P := P) (w := w) base t o.type e i 1 ht hi v n xs hown, by simpa using hown, World.grownBy.refl _ _⟩
      · obtain ⟨v', w', hr, h2, h3, _⟩ := run_append_own_at (P := P) w base t o.type e i (.int .u8 0) 1 1 ht hi hz hsize hby rfl (by decide) v n xs hown ad 0 cap [] rfl (by intro j u hj; simp at hj) (by intro u hu; simp at hu) (by unfold maxLen; omega) (by omega) hbase
        exact ⟨v', w', hr, by simpa using h2, h3⟩
    · obtain ⟨v', w', hr, h2, h3, _⟩ := run_append_own_at (P := P) w base t o.type e i (.int .u8 0) 1 1 ht hi hz hsize hby rfl (by decide) v n xs hown ⟨b, off, none⟩ p.length cap ((p.take p.length).map vb) (by simp) (news_of hpc) (vb_one _) (by unfold maxLen; omega) (by omega) hbase
      exact ⟨v', w', hr, by simpa using h2, h3⟩
  obtain ⟨v', w', hrun, h2, h3⟩ := hrun
  refine wpList_wanted hw fun K hK => ?_
  unfold Oper.wp execOp
  simp only [ho, resolve, invoke, builtin, Sem.run_bind, Sem.run_pure, Result.andThen_ok, List.map_toArray, List.map_cons, List.map_nil, hs, hx, hrun]
  exact hK _ _ (h v' w' h2 h3)
theorem below_new {w w' : World} {o : Obj} (h : (w.alloc o).grownBy w' (some w.heap.size)) : Below w.heap.size w w' :=
  ((Below.refl _ _).alloc (Nat.le_refl _) o).grown h (by simp) (fun k e => by cases e; exact Nat.le_refl _)
theorem own_new (w : World) (e : TypeId) : (w.alloc (.cells #[] e)).ownsRow w.heap.size e 1 (.slice (some ⟨w.heap.size, 0, none⟩) 0 0) 0 [] := World.ownsRow_made w #[] 0 (Nat.le_refl _) (Nat.zero_le _) rfl
theorem own_block (b n c : Nat) : (Value.slice (some ⟨b, 0, none⟩) n c).ownBlock = some b := rfl
theorem rd_two {w : World} {N e : Nat} {v : Value} {p q : List UInt8} (h : w.ownsRow N e 1 v (0 + p.length + q.length) ([] ++ p.map vb ++ q.map vb)) : Rd w v (p ++ q) := by
  refine Rd.owned (base := N) (e := e) ?_
  rw [List.length_append, List.map_append]
  rw [Nat.zero_add, List.nil_append] at h
  exact h
theorem rd_one {w : World} {N e : Nat} {v : Value} {p : List UInt8} (h : w.ownsRow N e 1 v (0 + p.length) ([] ++ p.map vb)) : Rd w v p := by
  refine Rd.owned (base := N) (e := e) ?_
  rw [Nat.zero_add, List.nil_append] at h
  exact h
theorem below_own {w0 w w' : World} {N e n : Nat} {v : Value} {xs : List Value} (hB : Below N w0 w) (hN : N ≤ w.heap.size) (h : w.ownsRow N e 1 v n xs) (hg : w.grownBy w' v.ownBlock) : Below N w0 w' :=
  hB.grown hg hN (fun k hk => (World.ownsRow.lt h k hk).1)

theorem tells_set {L : List UInt8} {t : Nat} (ht : t < L.length) {y : UInt8} (hy : y ≠ co L t) : more 0 (L.set t y) ≠ more 0 L := by
  have e1 : L.set t y = L.take t ++ y :: L.drop (t + 1) := by rw [List.set_eq_take_append_cons_drop, if_pos ht]
  have e2 : L = L.take t ++ co L t :: L.drop (t + 1) := by
    rw [co_lt ht]
    conv => lhs; rw [← List.take_append_drop t L, List.drop_eq_getElem_cons ht]
  rw [e1]
  conv => rhs; rw [e2]
  exact more_tells hy
theorem upto_co_set {L : List UInt8} {t : Nat} (ht : t < L.length) (y : UInt8) : upto (fun i => if i = t then y else co L i) L.length = L.set t y := by
  refine co_ext (by rw [upto_length, List.length_set]) fun i hi => ?_
  rw [upto_length] at hi
  rw [upto, co_map_range _ hi, co_set y ht]
theorem xor_ne {a b : UInt8} (h : b ≠ 0) : a ^^^ b ≠ a := by
  intro e
  apply h
  have e2 := congrArg (a ^^^ ·) e
  simp only [← UInt8.xor_assoc, UInt8.xor_self, UInt8.zero_xor] at e2
  exact e2

/-- the first k differences of two lists -/
def xk (p q : List UInt8) (k t : Nat) : UInt8 := if t < k then co p t ^^^ co q t else 0
theorem xk_zero (p q : List UInt8) (t : Nat) : xk p q 0 t = 0 := if_neg (Nat.not_lt_zero _)
theorem xk_step (p q : List UInt8) (k t : Nat) : xk p q (k + 1) t = if t = k then co p k ^^^ co q k else xk p q k t := by
  unfold xk
  by_cases e : t = k
  · subst e; rw [if_pos (by omega), if_pos rfl]
  · rw [if_neg e]
    by_cases h : t < k
    · rw [if_pos h, if_pos (by omega)]
    · rw [if_neg h, if_neg (by omega)]
theorem xk_all {p q : List UInt8} (h : p.length = q.length) : upto (xk p q p.length) p.length = List.zipWith (· ^^^ ·) p q := by
  refine co_ext (by rw [upto_length]; simp [h]) fun i hi => ?_
  rw [upto_length] at hi
  have h2 : i < (List.zipWith (· ^^^ ·) p q).length := by simp; omega
  have e1 : co (upto (xk p q p.length) p.length) i = xk p q p.length i := co_map_range _ hi
  rw [e1, co_lt h2]
  unfold xk
  rw [if_pos hi, co_lt hi, co_lt (show i < q.length by omega), List.getElem_zipWith]
theorem zeros_all (n : Nat) : upto (fun _ => 0) n = List.replicate n 0 := by
  refine co_ext (by rw [upto_length]; simp) fun i hi => ?_
  rw [upto_length] at hi
  have e1 : co (upto (fun _ => 0) n) i = 0 := co_map_range _ hi
  rw [e1, co_replicate]

theorem rd_y (w : World) (y : UInt8) (e : TypeId) : Rd (w.alloc (.cells #[.int .u8 ((y.toNat : Nat) : Int)] e)) (.slice (some ⟨w.heap.size, 0, none⟩) 1 1) [y] := rd_lit (n := 1) [y] rfl rfl (by decide)
theorem len_y (y : UInt8) : [y].length ≤ 1000000 := by show 1 ≤ 1000000; decide

end Go.Proofs.Ytfdihdndldiafaa.Gf

/-
  PLAIN MATHEMATICS OF SECTORS: a number's four bytes, highest first; what is packed; what any bytes are at a place. No program's function is named here.
-/

namespace Go.Proofs.Ytfdihdndldiafaa.Gf
set_option linter.unusedVariables false
set_option linter.unusedSimpArgs false
open Go.RowKit

/-- a number's four bytes -/
def fo (n : Nat) : List UInt8 := [UInt8.ofNat (n / 16777216), UInt8.ofNat (n / 65536), UInt8.ofNat (n / 256), UInt8.ofNat n]
/-- the number of four bytes -/
def nu (p : List UInt8) : Nat := (co p 0).toNat * 16777216 + (co p 1).toNat * 65536 + (co p 2).toNat * 256 + (co p 3).toNat
theorem fo_length (n : Nat) : (fo n).length = 4 := rfl
theorem nu_lt (p : List UInt8) : nu p < 4294967296 := by
  have h0 := (co p 0).toNat_lt
  have h1 := (co p 1).toNat_lt
  have h2 := (co p 2).toNat_lt
  have h3 := (co p 3).toNat_lt
  unfold nu
  omega
theorem nu_fo {n : Nat} (h : n < 4294967296) : nu (fo n) = n := by
  show (UInt8.ofNat (n / 16777216)).toNat * 16777216 + (UInt8.ofNat (n / 65536)).toNat * 65536 + (UInt8.ofNat (n / 256)).toNat * 256 + (UInt8.ofNat n).toNat = n
  simp only [UInt8.toNat_ofNat']
  omega
theorem fo_inj {m n : Nat} (hm : m < 4294967296) (hn : n < 4294967296) (h : fo m = fo n) : m = n := by
  rw [← nu_fo hm, ← nu_fo hn, h]
theorem four_of {p : List UInt8} (h : p.length = 4) : p = [co p 0, co p 1, co p 2, co p 3] := by
  match p, h with
  | [a, b, c, d], _ => rfl
theorem fo_nu {p : List UInt8} (h : p.length = 4) : fo (nu p) = p := by
  conv => rhs; rw [four_of h]
  have h0 := (co p 0).toNat_lt
  have h1 := (co p 1).toNat_lt
  have h2 := (co p 2).toNat_lt
  have h3 := (co p 3).toNat_lt
  unfold fo
  congr 1
  · apply UInt8.toNat_inj.1
    rw [UInt8.toNat_ofNat']
    unfold nu
    omega
  congr 1
  · apply UInt8.toNat_inj.1
    rw [UInt8.toNat_ofNat']
    unfold nu
    omega
  congr 1
  · apply UInt8.toNat_inj.1
    rw [UInt8.toNat_ofNat']
    unfold nu
    omega
  congr 1
  · apply UInt8.toNat_inj.1
    rw [UInt8.toNat_ofNat']
    unfold nu
    omega

/-- what stands ahead of the check sum -/
def hdS (a e : Nat) (d : List UInt8) : List UInt8 := fo a ++ (fo e ++ d)
/-- a sector -/
def pkS (a e : Nat) (d : List UInt8) : List UInt8 := hdS a e d ++ fo (more 0 (hdS a e d))
theorem hdS_length (a e : Nat) (d : List UInt8) : (hdS a e d).length = d.length + 8 := by
  unfold hdS
  rw [List.length_append, List.length_append, fo_length, fo_length]
  omega
theorem pk_length (a e : Nat) (d : List UInt8) : (pkS a e d).length = d.length + 12 := by
  unfold pkS
  rw [List.length_append, hdS_length, fo_length]
theorem hdS_inj {a e a' e' : Nat} {d d' : List UInt8} (ha : a < 4294967296) (he : e < 4294967296) (ha' : a' < 4294967296) (he' : e' < 4294967296) (h : hdS a e d = hdS a' e' d') : a = a' ∧ e = e' ∧ d = d' := by
  unfold hdS at h
  have h1 := List.append_inj h rfl
  have h2 := List.append_inj h1.2 rfl
  exact ⟨fo_inj ha ha' h1.1, fo_inj he he' h2.1, h2.2⟩
theorem pk_inj {a e a' e' : Nat} {d d' : List UInt8} (ha : a < 4294967296) (he : e < 4294967296) (ha' : a' < 4294967296) (he' : e' < 4294967296) (h : pkS a e d = pkS a' e' d') : a = a' ∧ e = e' ∧ d = d' := by
  have hl := congrArg List.length h
  rw [pk_length, pk_length] at hl
  unfold pkS at h
  have h1 := List.append_inj h (by rw [hdS_length, hdS_length]; omega)
  exact hdS_inj ha he ha' he' h1.1

/-- the epoch that stands in bytes, and the data -/
def epS (b : List UInt8) : Nat := nu ((b.drop 4).take 4)
def daS (b : List UInt8) : List UInt8 := (b.drop 8).take (b.length - 12)
theorem daS_length (b : List UInt8) : (daS b).length = b.length - 12 := by unfold daS; rw [List.length_take, List.length_drop]; omega
theorem epS_lt (b : List UInt8) : epS b < 4294967296 := nu_lt _
theorem epS_pk {a e : Nat} (d : List UInt8) (he : e < 4294967296) : epS (pkS a e d) = e := by
  unfold epS
  have : ((pkS a e d).drop 4).take 4 = fo e := rfl
  rw [this, nu_fo he]
theorem daS_pk (a e : Nat) (d : List UInt8) : daS (pkS a e d) = d := by
  unfold daS
  rw [pk_length, Nat.add_sub_cancel]
  have : (pkS a e d).drop 8 = d ++ fo (more 0 (hdS a e d)) := rfl
  rw [this]
  exact List.take_left' rfl
/-- any bytes, part by part -/
theorem partsS {b : List UInt8} (h : 12 ≤ b.length) : b = (b.take 4 ++ ((b.drop 4).take 4 ++ daS b)) ++ b.drop (b.length - 4) := by
  have e1 : b.take (b.length - 4) = b.take 4 ++ ((b.drop 4).take 4 ++ daS b) := by
    have e2 : b.length - 4 = 4 + (4 + (b.length - 12)) := by omega
    rw [e2, List.take_add, List.take_add, List.drop_drop]
    rfl
  rw [← e1, List.take_append_drop]
theorem aheadS {b : List UInt8} (h : 12 ≤ b.length) : b.take (b.length - 4) = b.take 4 ++ ((b.drop 4).take 4 ++ daS b) := by
  have e2 : b.length - 4 = 4 + (4 + (b.length - 12)) := by omega
  rw [e2, List.take_add, List.take_add, List.drop_drop]
  rfl
/-- bytes that are a sector of the place a, told as the document's answer asks it -/
theorem pk_iff {b : List UInt8} {a : Nat} (h : 12 ≤ b.length) (ha : a < 4294967296) : pkS a (epS b) (daS b) = b ↔ (nu (b.take 4) = a ∧ nu (b.drop (b.length - 4)) = more 0 (b.take (b.length - 4))) := by
  have l1 : (b.take 4).length = 4 := by rw [List.length_take]; omega
  have l2 : ((b.drop 4).take 4).length = 4 := by rw [List.length_take, List.length_drop]; omega
  have l3 : (b.drop (b.length - 4)).length = 4 := by rw [List.length_drop]; omega
  have hp := partsS h
  have hh := aheadS h
  constructor
  · intro e
    have e1 : pkS a (epS b) (daS b) = (b.take 4 ++ ((b.drop 4).take 4 ++ daS b)) ++ b.drop (b.length - 4) := e.trans hp
    unfold pkS at e1
    have e2 := List.append_inj e1 (by rw [← hh, hdS_length, daS_length, List.length_take]; omega)
    have e3 : fo a = b.take 4 := (List.append_inj e2.1 (by rw [fo_length, l1])).1
    refine ⟨by rw [← e3, nu_fo ha], ?_⟩
    rw [← e2.2, nu_fo (more_lt _ _), e2.1, hh]
  · rintro ⟨h1, h2⟩
    have e1 : hdS a (epS b) (daS b) = b.take (b.length - 4) := by
      rw [hh]
      unfold hdS epS
      rw [fo_nu l2, ← h1, fo_nu l1]
    unfold pkS
    rw [e1, ← h2, fo_nu l3, List.take_append_drop]

/-- numbers and data that may stand in a sector -/
def OkS (a e : Int) (n : Nat) : Prop := (0 ≤ a ∧ a ≤ 2147483647) ∧ (0 ≤ e ∧ e ≤ 2147483647) ∧ n ≤ 4096
instance (a e : Int) (n : Nat) : Decidable (OkS a e n) := inferInstanceAs (Decidable (_ ∧ _ ∧ _))
def paX (a e : Int) (d : List UInt8) : Int := if OkS a e d.length then 0 else 1
def paR (a e : Int) (d : List UInt8) : List UInt8 := if OkS a e d.length then pkS a.toNat e.toNat d else []
theorem pa_ok {a e : Int} {d : List UInt8} (h : OkS a e d.length) : paX a e d = 0 ∧ paR a e d = pkS a.toNat e.toNat d := ⟨if_pos h, if_pos h⟩
theorem pa_not {a e : Int} {d : List UInt8} (h : ¬ OkS a e d.length) : paX a e d = 1 ∧ paR a e d = [] := ⟨if_neg h, if_neg h⟩
/-- bytes that are a sector of a place -/
def OkU (a : Int) (b : List UInt8) : Prop := 12 ≤ b.length ∧ OkS a (epS b : Int) (daS b).length ∧ pkS a.toNat (epS b) (daS b) = b
instance (a : Int) (b : List UInt8) : Decidable (OkU a b) := inferInstanceAs (Decidable (_ ∧ _ ∧ _))
def upX (a : Int) (b : List UInt8) : Int := if OkU a b then 0 else 110
def upN (a : Int) (b : List UInt8) : Nat := if OkU a b then epS b else 0
def upD (a : Int) (b : List UInt8) : List UInt8 := if OkU a b then daS b else []
theorem up_ok {a : Int} {b : List UInt8} (h : OkU a b) : upX a b = 0 ∧ upN a b = epS b ∧ upD a b = daS b := ⟨if_pos h, if_pos h, if_pos h⟩
theorem up_not {a : Int} {b : List UInt8} (h : ¬ OkU a b) : upX a b = 110 ∧ upN a b = 0 ∧ upD a b = [] := ⟨if_neg h, if_neg h, if_neg h⟩
theorem okU_iff {a : Int} {b : List UInt8} : OkU a b ↔ (12 ≤ b.length ∧ b.length ≤ 4108 ∧ 0 ≤ a ∧ a ≤ 2147483647 ∧ nu (b.drop (b.length - 4)) = more 0 (b.take (b.length - 4)) ∧ nu (b.take 4) = a.toNat ∧ epS b ≤ 2147483647) := by
  unfold OkU OkS
  rw [daS_length]
  constructor
  · rintro ⟨h1, ⟨h2, h3, h4⟩, h5⟩
    have h6 := (pk_iff h1 (by omega)).1 h5
    exact ⟨h1, by omega, h2.1, h2.2, h6.2, h6.1, by omega⟩
  · rintro ⟨h1, h2, h3, h4, h5, h6, h7⟩
    exact ⟨h1, ⟨⟨h3, h4⟩, ⟨by omega, by omega⟩, by omega⟩, (pk_iff h1 (by omega)).2 ⟨h6, h5⟩⟩

/-- what is packed is unpacked -/
theorem ok_pk {a e : Int} {d : List UInt8} (h : OkS a e d.length) : OkU a (pkS a.toNat e.toNat d) ∧ epS (pkS a.toNat e.toNat d) = e.toNat ∧ daS (pkS a.toNat e.toNat d) = d := by
  have h1 : epS (pkS a.toNat e.toNat d) = e.toNat := epS_pk d (by have := h.2.1; omega)
  have h2 := daS_pk a.toNat e.toNat d
  refine ⟨⟨by rw [pk_length]; omega, ?_, by rw [h1, h2]⟩, h1, h2⟩
  rw [h1, h2, show ((e.toNat : Nat) : Int) = e by have := h.2.1; omega]
  exact h
/-- .. at its place alone -/
theorem pk_other {a e o : Int} {d : List UInt8} (h : OkS a e d.length) (ho : o ≠ a) : ¬ OkU o (pkS a.toNat e.toNat d) := by
  rintro ⟨h1, h2, h3⟩
  rw [(ok_pk h).2.1, (ok_pk h).2.2] at h3
  have h4 := h2.1
  have h5 := h.1
  have h6 := h.2.1
  have := (pk_inj (by omega) (by omega) (by omega) (by omega) h3).1
  omega
/-- what is unpacked is packed as it was -/
theorem ok_back {a : Int} {b : List UInt8} (h : OkU a b) : OkS a (epS b : Int) (daS b).length ∧ pkS a.toNat ((epS b : Nat) : Int).toNat (daS b) = b := by
  refine ⟨h.2.1, ?_⟩
  rw [Int.toNat_natCast]
  exact h.2.2
/-- a beginning of a sector -/
theorem cut_ok {a e o : Int} {d : List UInt8} {n : Nat} (h : OkS a e d.length) (hn : n < (pkS a.toNat e.toNat d).length) (hu : OkU o ((pkS a.toNat e.toNat d).take n)) :
    epS ((pkS a.toNat e.toNat d).take n) = e.toNat ∧ daS ((pkS a.toNat e.toNat d).take n) = d.take (n - 12) ∧ n - 12 ≤ d.length := by
  have h1 := hu.1
  rw [List.length_take] at h1
  rw [pk_length] at hn h1
  have h12 : 12 ≤ n := by omega
  have e0 : epS (pkS a.toNat e.toNat d) = e.toNat := (ok_pk h).2.1
  refine ⟨?_, ?_, by omega⟩
  · refine Eq.trans ?_ e0
    unfold epS
    rw [List.drop_take, List.take_take, show min 4 (n - 4) = 4 by omega]
  · unfold daS
    rw [List.length_take, pk_length, show min n (d.length + 12) = n by omega, List.drop_take, List.take_take, show min (n - 12) (n - 8) = n - 12 by omega]
    have : (pkS a.toNat e.toNat d).drop 8 = d ++ fo (more 0 (hdS a.toNat e.toNat d)) := rfl
    rw [this]
    exact List.take_append_of_le_length (by omega)

theorem co_drop0 (p : List UInt8) (n i : Nat) : co (p.drop n) i = co p (n + i) := by unfold co; rw [List.getElem?_drop]
/-- one byte that is another one, anywhere in a sector, is seen -/
theorem pk_tells {a e o : Int} {d : List UInt8} {t : Nat} {y : UInt8} (h : OkS a e d.length) (ht : t < (pkS a.toNat e.toNat d).length) (hy : y ≠ co (pkS a.toNat e.toNat d) t) : ¬ OkU o ((pkS a.toNat e.toNat d).set t y) := by
  intro hu
  have hl : ((pkS a.toNat e.toNat d).set t y).length = (pkS a.toNat e.toNat d).length := List.length_set
  have h1 := okU_iff.1 hu
  have h2 := okU_iff.1 (ok_pk h).1
  obtain ⟨_, _, _, _, s1, _⟩ := h1
  obtain ⟨g1, _, _, _, s2, _⟩ := h2
  rw [hl] at s1
  obtain ⟨b, hb⟩ : ∃ b, b = pkS a.toNat e.toNat d := ⟨_, rfl⟩
  rw [← hb] at s1 s2 ht hy g1
  have l3 : (b.drop (b.length - 4)).length = 4 := by rw [List.length_drop]; omega
  by_cases hc : t < b.length - 4
  · have e1 : (b.set t y).drop (b.length - 4) = b.drop (b.length - 4) := by rw [List.drop_set, if_pos hc]
    have e2 : (b.set t y).take (b.length - 4) = (b.take (b.length - 4)).set t y := List.take_set
    rw [e1, e2, s2] at s1
    refine tells_set (L := b.take (b.length - 4)) (t := t) (by rw [List.length_take]; omega) (y := y) ?_ s1.symm
    rw [co_take hc]
    exact hy
  · have e1 : (b.set t y).take (b.length - 4) = b.take (b.length - 4) := by rw [List.take_set_of_le (by omega)]
    rw [e1, ← s2] at s1
    have l4 : ((b.set t y).drop (b.length - 4)).length = 4 := by rw [List.length_drop, List.length_set]; omega
    have e2 : (b.set t y).drop (b.length - 4) = b.drop (b.length - 4) := by rw [← fo_nu l4, ← fo_nu l3, s1]
    have e3 := congrArg (fun z => co z (t - (b.length - 4))) e2
    simp only [co_drop0] at e3
    rw [show b.length - 4 + (t - (b.length - 4)) = t by omega, co_set y ht, if_pos rfl] at e3
    exact hy e3

end Go.Proofs.Ytfdihdndldiafaa.Gf

/-
  WORLDS IN WHICH ONE BLOCK ALONE HAS TURNED. No program's function is named here.
-/

namespace Go.Proofs.Ytfdihdndldiafaa.Gf
set_option linter.unusedVariables false
set_option linter.unusedSimpArgs false
open Go.RowKit

/-- Nothing but the block g has turned. -/
structure Only (g : Nat) (w w' : World) : Prop where
  os : w'.os = w.os
  tape : w'.tape = w.tape
  output : w'.output = w.output
  size : w'.heap.size = w.heap.size
  block : ∀ k, k ≠ g → w'.heap[k]? = w.heap[k]?
theorem Only.refl (g : Nat) (w : World) : Only g w w := ⟨rfl, rfl, rfl, rfl, fun _ _ => rfl⟩
theorem Only.trans {g : Nat} {a b c : World} (h : Only g a b) (k : Only g b c) : Only g a c :=
  ⟨k.os.trans h.os, k.tape.trans h.tape, k.output.trans h.output, k.size.trans h.size, fun i hi => (k.block i hi).trans (h.block i hi)⟩
theorem Only.drew {g : Nat} {a w : World} (h : Only g a w) : Only g a w.drew := ⟨h.os, h.tape, h.output, h.size, h.block⟩
theorem Only.setCell {g : Nat} {a w : World} (h : Only g a w) (j : Nat) (u : Value) : Only g a (w.setCell ⟨g, j, none⟩ u) := by
  have b := (Below.refl 0 w).setCell (p := ⟨g, j, none⟩) (Nat.zero_le _) u
  exact ⟨b.os.trans h.os, b.tape.trans h.tape, b.output.trans h.output, by rw [← h.size]; simp, fun k hk => (Below.heap_setCell w ⟨g, j, none⟩ u k hk).trans (h.block k hk)⟩
theorem Only.below {g B : Nat} {w w' : World} (h : Only g w w') (hB : B ≤ g) : Below B w w' :=
  ⟨h.os, h.tape, h.output, by rw [h.size]; exact Nat.le_refl _, fun k hk => h.block k (by omega)⟩
theorem Only.cell {g : Nat} {w w' : World} (h : Only g w w') {p : Addr} (hp : p.block ≠ g) : w'.cell? p = w.cell? p := World.cell?_of_block (w := w) (h.block p.block hp)
/-- a slice that does not lie in the block g -/
def Apart (g : Nat) (v : Value) : Prop := ∀ x n c, v = .slice (some x) n c → n = 0 ∨ x.block ≠ g
theorem Rd.only {g : Nat} {w w' : World} {v : Value} {p : List UInt8} (h : Rd w v p) (ha : Apart g v) (ho : Only g w w') : Rd w' v p := by
  rcases h with h | ⟨b, off, cap, h1, h2, h3, h4, h5, h6⟩
  · exact Or.inl h
  · have hb : b ≠ g := by
      rcases ha _ _ _ h2 with e | e
      · exact absurd (List.length_eq_zero_iff.1 e) h1
      · exact e
    exact Or.inr ⟨b, off, cap, h1, h2, h3, h4, by rw [ho.size]; exact h5, fun i hi => (ho.cell (p := ⟨b, off + i, none⟩) hb).trans (h6 i hi)⟩
theorem Rd.apart {w : World} {v : Value} {p : List UInt8} {g : Nat} (h : Rd w v p) (hg : w.heap.size ≤ g) : Apart g v := by
  intro x n c e
  rcases h with ⟨a, c', _, e2, _⟩ | ⟨b, off, cap, h1, h2, h3, h4, h5, h6⟩
  · subst e2; simp at e; exact Or.inl e.2.1.symm
  · subst h2; simp at e; obtain ⟨rfl, rfl, rfl⟩ := e; exact Or.inr (by show b ≠ g; omega)
theorem RowF.only {g g' : Nat} {w w' : World} {base e L C : Nat} {f : Nat → UInt8} (h : RowF w base e g L C f) (hg : g ≠ g') (o : Only g' w w') : RowF w' base e g L C f := by
  obtain ⟨h0, h | ⟨g2, cap, cur, hv, hgg, hh, r⟩⟩ := h
  · exact ⟨h0, Or.inl h⟩
  · refine ⟨h0, Or.inr ⟨g2, cap, cur, hv, hgg, ?_, r⟩⟩
    have eg : g2 = g := by simp at hv; exact hv.1.symm
    rw [o.block g2 (by rw [eg]; exact hg)]
    exact hh
theorem Only.drewN {g : Nat} {a w : World} (h : Only g a w) (n : Nat) : Only g a (w.drewN n) := ⟨h.os, h.tape, h.output, h.size, h.block⟩
theorem apart_block {g b off n c : Nat} (h : b ≠ g) : Apart g (.slice (some ⟨b, off, none⟩) n c) := by
  intro x n' c' e
  simp at e
  obtain ⟨rfl, _⟩ := e
  exact Or.inr h
theorem Only.frozen {g : Nat} {w w' : World} (h : Only g w w') {p : Addr} (hp : p.block ≠ g) : w'.frozen? p = w.frozen? p := World.frozen?_of_block (w := w) (h.block p.block hp)

end Go.Proofs.Ytfdihdndldiafaa.Gf

/-
  WORLDS IN WHICH ONE BLOCK MAY HAVE TURNED AND OTHERS MAY HAVE BEEN LAID; 'copy' into a row of the call's own. No program's function is named here.
-/



namespace Go.Proofs.Ytfdihdndldiafaa.Gf
set_option linter.unusedVariables false
set_option linter.unusedSimpArgs false
open Go.RowKit

/-- Of what was there nothing but the block g has turned. -/
structure Turn (g : Nat) (w w' : World) : Prop where
  os : w'.os = w.os
  tape : w'.tape = w.tape
  output : w'.output = w.output
  size : w.heap.size ≤ w'.heap.size
  block : ∀ k, k < w.heap.size → k ≠ g → w'.heap[k]? = w.heap[k]?
theorem Turn.refl (g : Nat) (w : World) : Turn g w w := ⟨rfl, rfl, rfl, Nat.le_refl _, fun _ _ _ => rfl⟩
theorem Turn.trans {g : Nat} {a b c : World} (h : Turn g a b) (k : Turn g b c) : Turn g a c :=
  ⟨k.os.trans h.os, k.tape.trans h.tape, k.output.trans h.output, Nat.le_trans h.size k.size, fun i hi hg => (k.block i (Nat.lt_of_lt_of_le hi h.size) hg).trans (h.block i hi hg)⟩
theorem Below.turn {w w' : World} (h : Below w.heap.size w w') (g : Nat) : Turn g w w' := ⟨h.os, h.tape, h.output, h.size, fun k hk _ => h.block k hk⟩
theorem Only.turn {g : Nat} {w w' : World} (h : Only g w w') : Turn g w w' := ⟨h.os, h.tape, h.output, by rw [h.size]; exact Nat.le_refl _, fun k _ hk => h.block k hk⟩
theorem Turn.below {g B : Nat} {w w' : World} (h : Turn g w w') (hg : B ≤ g) (hB : B ≤ w.heap.size) : Below B w w' :=
  ⟨h.os, h.tape, h.output, h.size, fun k hk => h.block k (by omega) (by omega)⟩
theorem Turn.cell {g : Nat} {w w' : World} (h : Turn g w w') {p : Addr} (hs : p.block < w.heap.size) (hp : p.block ≠ g) : w'.cell? p = w.cell? p := World.cell?_of_block (w := w) (h.block p.block hs hp)
theorem Turn.frozen {g : Nat} {w w' : World} (h : Turn g w w') {p : Addr} (hs : p.block < w.heap.size) (hp : p.block ≠ g) : w'.frozen? p = w.frozen? p := World.frozen?_of_block (w := w) (h.block p.block hs hp)
theorem Rd.turn {g : Nat} {w w' : World} {v : Value} {p : List UInt8} (h : Rd w v p) (ha : Apart g v) (ho : Turn g w w') : Rd w' v p := by
  rcases h with h | ⟨b, off, cap, h1, h2, h3, h4, h5, h6⟩
  · exact Or.inl h
  · have hb : b ≠ g := by
      rcases ha _ _ _ h2 with e | e
      · exact absurd (List.length_eq_zero_iff.1 e) h1
      · exact e
    exact Or.inr ⟨b, off, cap, h1, h2, h3, h4, Nat.lt_of_lt_of_le h5 ho.size, fun i hi => (ho.cell (p := ⟨b, off + i, none⟩) h5 hb).trans (h6 i hi)⟩
theorem RowF.turn {g g' : Nat} {w w' : World} {base e L C : Nat} {f : Nat → UInt8} (h : RowF w base e g L C f) (hg : g ≠ g') (o : Turn g' w w') : RowF w' base e g L C f := by
  obtain ⟨h0, h | ⟨g2, cap, cur, hv, hgg, hh, r⟩⟩ := h
  · exact ⟨h0, Or.inl h⟩
  · refine ⟨h0, Or.inr ⟨g2, cap, cur, hv, hgg, ?_, r⟩⟩
    have eg : g2 = g := by simp at hv; exact hv.1.symm
    have hlt : g2 < w.heap.size := (Array.getElem?_eq_some_iff.1 hh).1
    rw [o.block g2 hlt (by rw [eg]; exact hg)]
    exact hh
/-- n numbers from the place o on, told anew -/
def putAt (f : Nat → UInt8) (o n : Nat) (q : Nat → UInt8) (t : Nat) : UInt8 := if o ≤ t ∧ t < o + n then q (t - o) else f t
theorem putAt_zero (f : Nat → UInt8) (o : Nat) (q : Nat → UInt8) : putAt f o 0 q = f := by funext t; exact if_neg (by omega)
theorem putAt_step (f : Nat → UInt8) (o k : Nat) (q : Nat → UInt8) (t : Nat) : putAt f o (k + 1) q t = if t = o + k then q k else putAt f o k q t := by
  unfold putAt
  by_cases e : t = o + k
  · subst e; rw [if_pos (by omega), if_pos rfl, show o + k - o = k by omega]
  · rw [if_neg e]
    by_cases h : o ≤ t ∧ t < o + k
    · rw [if_pos h, if_pos (by omega)]
    · rw [if_neg h, if_neg (by omega)]
theorem putAt_out {f : Nat → UInt8} {o n : Nat} {q : Nat → UInt8} {t : Nat} (h : t < o ∨ o + n ≤ t) : putAt f o n q t = f t := if_neg (by omega)
theorem putAt_in {f : Nat → UInt8} {o n : Nat} {q : Nat → UInt8} {k : Nat} (h : k < n) : putAt f o n q (o + k) = q k := by
  unfold putAt; rw [if_pos (by omega), show o + k - o = k by omega]
theorem putAt_congr {f : Nat → UInt8} {o n : Nat} {q q' : Nat → UInt8} (h : ∀ k, k < n → q k = q' k) : putAt f o n q = putAt f o n q' := by
  funext t; unfold putAt
  by_cases e : o ≤ t ∧ t < o + n
  · rw [if_pos e, if_pos e]; exact h _ (by omega)
  · rw [if_neg e, if_neg e]
/-- the row's cells, as they lie -/
theorem RowF.heap {w : World} {base e g L C : Nat} {f : Nat → UInt8} (h : RowF w base e g L C f) (hLC : L = C) : w.heap[g]? = some (.cells ((upto f L).map vb).toArray e (0, 0)) ∧ C ≤ maxLen := by
  obtain ⟨h0, ⟨hv, _⟩ | ⟨g2, cap, cur, hv, hgg, hh, h1, h2, h3, h4⟩⟩ := h
  · simp at hv
  · have e1 : g2 = g := by simp at hv; exact hv.1.symm
    have e2 : cap = C := by simp at hv; exact (by first | exact hv.symm | exact hv.2.symm)
    clear hv
    subst e1 e2 hLC
    refine ⟨?_, h2⟩
    rw [hh, ← h4, Nat.mul_one]
    congr 2
    apply Array.ext'
    have : cur.toList.length = L := by rw [Array.length_toList, h3, Nat.mul_one]
    rw [List.toList_toArray, ← this, List.take_length]
theorem RowF.of_heap {w : World} {base e g L : Nat} {f : Nat → UInt8} (hg : base ≤ g) (hm : L ≤ maxLen) (h : w.heap[g]? = some (.cells ((upto f L).map vb).toArray e (0, 0))) : RowF w base e g L L f := by
  have hl : ((upto f L).map vb).length = L := by rw [List.length_map, upto_length]
  refine ⟨by rw [hl, Nat.mul_one], Or.inr ⟨g, L, _, rfl, hg, h, Nat.le_refl _, hm, by rw [List.size_toArray, hl, Nat.mul_one], ?_⟩⟩
  rw [Nat.mul_one, List.toList_toArray]
  exact List.take_of_length_le (by rw [hl]; exact Nat.le_refl _)
theorem co_drop (p : List UInt8) (n i : Nat) : co (p.drop n) i = co p (n + i) := by unfold co; rw [List.getElem?_drop]
theorem co_upto_lt {f : Nat → UInt8} {n i : Nat} (h : i < n) : co (upto f n) i = f i := co_map_range f h
theorem splice_upto {f : Nat → UInt8} {L o : Nat} {p : List UInt8} (h : o + p.length ≤ L) : splice ((upto f L).map vb) o (p.map vb) = (upto (putAt f o p.length (co p)) L).map vb := by
  unfold splice
  rw [← List.map_take, ← List.map_drop, ← List.map_append, ← List.map_append]
  congr 1
  refine co_ext ?_ ?_
  · simp [upto]; omega
  · intro i hi
    rw [List.length_append, List.length_append, List.length_take, List.length_drop, upto_length, List.length_map] at hi
    rw [co_upto_lt (f := putAt f o p.length (co p)) (show i < L by omega)]
    by_cases h1 : i < o
    · rw [putAt_out (Or.inl h1), co_append_lt (by rw [List.length_take, upto_length]; omega), co_take h1, co_upto_lt (by omega)]
    · by_cases h2 : i < o + p.length
      · obtain ⟨k, rfl⟩ := Nat.exists_eq_add_of_le (show o ≤ i by omega)
        rw [putAt_in (show k < p.length by omega), co_append_ge (by rw [List.length_take, upto_length]; omega), List.length_take, upto_length]
        rw [co_append_lt (by omega), show o + k - min o L = k by omega]
      · rw [putAt_out (Or.inr (by omega)), co_append_ge (by rw [List.length_take, upto_length]; omega), List.length_take, upto_length, co_append_ge (by omega), co_drop, List.length_map]
        rw [show o + p.length + (i - min o L - p.length) = i by omega, co_upto_lt (by omega)]
theorem only_setRow (w : World) (g : Nat) (cs : Array Value) : Only g w (w.setRow g cs) := ⟨rfl, rfl, rfl, by simp [World.setRow], fun k hk => setRow_other w g k cs hk⟩
/-- 'copy' into a part of a row of the call's own, as a step of a region that draws its order. -/
theorem step_copy_rd {P : Program} {ops : Array Oper} {o : Oper} {a : Act} {w : World} {K : Act → World → Prop} {Q : Exit → Act → World → Prop} {E : Prop} (hgd : o.guard = none) (d s : Operand) (dT sT : TypeId)
    (ho : o.op = .call { callee := .builtin .copy, args := #[d, s], argTypes := #[dT, sT] }) (elem : TypeId) (hu : P.underlying dT = some (.slice elem)) (hsz : (P.info? elem).map (·.size) = some 1)
    {g off n dl dCap : Nat} {va : Value} {p : List UInt8} {base e L : Nat} {f : Nat → UInt8} (hd : a.eval d = .slice (some ⟨g, off, none⟩) dl dCap) (hs : a.eval s = va) (hr : Rd w va p) (hn : p.length = n) (hdl : n ≤ dl) (hR : RowF w base e g L L f) (hl : off + n ≤ L)
    (h : ∀ w', Only g w w' → RowF w' base e g L L (putAt f off n (co p)) → K (a.put o.dst (goInt n)) w') :
    if Region.wanted o (yielded ops a.tmps) = true then Oper.wp P o a w K Q else E := by
  have hw : Region.wanted o (yielded ops a.tmps) = true := by simp [Region.wanted, hgd]
  rw [if_pos hw]
  subst hn
  obtain ⟨hg, hm⟩ := hR.heap rfl
  have hlt := hR.lt
  rcases hr with ⟨ao, cap, rfl, rfl, _⟩ | ⟨b, so, cap, hp0, rfl, h1, h2, h3, hpc⟩
  · have hrun := run_copy_none (P := P) w dT sT o.type elem (some ⟨g, off, none⟩) ao dl dCap 0 cap hu hsz (Nat.zero_min _)
    unfold Oper.wp
    simp [execOp, ho, resolve, invoke, builtin, hd, hs, hrun, Result.andThen]
    exact h w (Only.refl _ _) (by rw [List.length_nil, putAt_zero]; exact hR)
  · have hrun := run_copy_row (P := P) w dT sT o.type elem g off dl dCap ⟨b, so, none⟩ p.length cap ((upto f L).map vb).toArray e (p.map vb) hu hsz hg (by rw [List.length_map]; exact (Nat.min_eq_left hdl).symm) (by have := news_of (k := p.length) hpc; rwa [List.take_length] at this) (by simp [upto_length]; exact hl) (vb_one p)
    unfold Oper.wp
    simp [execOp, ho, resolve, invoke, builtin, hd, hs, hrun, Result.andThen]
    refine h _ (only_setRow _ _ _) (RowF.of_heap hlt.1 hm ?_)
    rw [← splice_upto hl]
    simpa [splice] using setRow_heap w g _ _ e _ hg

end Go.Proofs.Ytfdihdndldiafaa.Gf

/-
  WORLDS IN WHICH SOME BLOCKS HAVE TURNED, AND OTHERS WERE LAID (a closure over several variables). No program's function is named here.
-/

namespace Go.Proofs.Ytfdihdndldiafaa.Gf
set_option linter.unusedVariables false
set_option linter.unusedSimpArgs false
open Go.RowKit

structure TurnL (G : List Nat) (w w' : World) : Prop where
  os : w'.os = w.os
  tape : w'.tape = w.tape
  output : w'.output = w.output
  size : w.heap.size ≤ w'.heap.size
  block : ∀ k, k < w.heap.size → k ∉ G → w'.heap[k]? = w.heap[k]?
theorem TurnL.refl (G : List Nat) (w : World) : TurnL G w w := ⟨rfl, rfl, rfl, Nat.le_refl _, fun _ _ _ => rfl⟩
theorem TurnL.trans {G : List Nat} {a b c : World} (h : TurnL G a b) (k : TurnL G b c) : TurnL G a c :=
  ⟨k.os.trans h.os, k.tape.trans h.tape, k.output.trans h.output, Nat.le_trans h.size k.size, fun i hi hg => (k.block i (Nat.lt_of_lt_of_le hi h.size) hg).trans (h.block i hi hg)⟩
theorem Below.turnL {w w' : World} (h : Below w.heap.size w w') (G : List Nat) : TurnL G w w' := ⟨h.os, h.tape, h.output, h.size, fun k hk _ => h.block k hk⟩
theorem Only.turnL {g : Nat} {G : List Nat} {w w' : World} (h : Only g w w') (hg : g ∈ G) : TurnL G w w' :=
  ⟨h.os, h.tape, h.output, by rw [h.size]; exact Nat.le_refl _, fun k _ hk => h.block k (fun e => hk (by rw [e]; exact hg))⟩
theorem TurnL.put {G : List Nat} {a w : World} (h : TurnL G a w) {g : Nat} (hg : g ∈ G) (j : Nat) (u : Value) : TurnL G a (w.setCell ⟨g, j, none⟩ u) := h.trans (((Only.refl g w).setCell j u).turnL hg)
theorem TurnL.drew {G : List Nat} {a w : World} (h : TurnL G a w) : TurnL G a w.drew := ⟨h.os, h.tape, h.output, h.size, h.block⟩
theorem TurnL.drewN {G : List Nat} {a w : World} (h : TurnL G a w) (n : Nat) : TurnL G a (w.drewN n) := ⟨h.os, h.tape, h.output, h.size, h.block⟩
theorem TurnL.below {G : List Nat} {B : Nat} {w w' : World} (h : TurnL G w w') (hg : ∀ g, g ∈ G → B ≤ g) (hB : B ≤ w.heap.size) : Below B w w' :=
  ⟨h.os, h.tape, h.output, h.size, fun k hk => h.block k (by omega) (fun e => by have := hg k e; omega)⟩
theorem TurnL.cell {G : List Nat} {w w' : World} (h : TurnL G w w') {p : Addr} (hs : p.block < w.heap.size) (hp : p.block ∉ G) : w'.cell? p = w.cell? p := World.cell?_of_block (w := w) (h.block p.block hs hp)
theorem TurnL.frozen {G : List Nat} {w w' : World} (h : TurnL G w w') {p : Addr} (hs : p.block < w.heap.size) (hp : p.block ∉ G) : w'.frozen? p = w.frozen? p := World.frozen?_of_block (w := w) (h.block p.block hs hp)
/-- a slice that lies in none of the blocks -/
def ApartL (G : List Nat) (v : Value) : Prop := ∀ x n c, v = .slice (some x) n c → n = 0 ∨ x.block ∉ G
theorem Rd.turnL {G : List Nat} {w w' : World} {v : Value} {p : List UInt8} (h : Rd w v p) (ha : ApartL G v) (ho : TurnL G w w') : Rd w' v p := by
  rcases h with h | ⟨b, off, cap, h1, h2, h3, h4, h5, h6⟩
  · exact Or.inl h
  · have hb : b ∉ G := by
      rcases ha _ _ _ h2 with e | e
      · exact absurd (List.length_eq_zero_iff.1 e) h1
      · exact e
    exact Or.inr ⟨b, off, cap, h1, h2, h3, h4, Nat.lt_of_lt_of_le h5 ho.size, fun i hi => (ho.cell (p := ⟨b, off + i, none⟩) h5 hb).trans (h6 i hi)⟩
/-- one that was there before the blocks were laid -/
theorem Rd.apartL {w : World} {v : Value} {p : List UInt8} {G : List Nat} (h : Rd w v p) (hg : ∀ g, g ∈ G → w.heap.size ≤ g) : ApartL G v := by
  intro x n c e
  rcases h with ⟨a, c', _, e2, _⟩ | ⟨b, off, cap, h1, h2, h3, h4, h5, h6⟩
  · subst e2; simp at e; exact Or.inl e.2.1.symm
  · subst h2; simp at e; obtain ⟨rfl, rfl, rfl⟩ := e; exact Or.inr (fun h => by have := hg b h; omega)
/-- one that was laid behind them -/
theorem ApartL.own {w : World} {base e n : Nat} {v : Value} {xs : List Value} {G : List Nat} (h : w.ownsRow base e 1 v n xs) (hg : ∀ g, g ∈ G → g < base) : ApartL G v := by
  intro x m c ev
  obtain ⟨_, ⟨hv, hn⟩ | ⟨g, cap, cur, hv, hgb, _⟩⟩ := h
  · rw [hv] at ev; simp at ev
  · rw [hv] at ev
    simp at ev
    obtain ⟨rfl, _, _⟩ := ev
    exact Or.inr (fun h => by have := hg g h; omega)
theorem ApartL.nil (G : List Nat) (c : Nat) (a : Option Addr) : ApartL G (.slice a 0 c) := fun x n c' e => by simp at e; exact Or.inl e.2.1.symm

end Go.Proofs.Ytfdihdndldiafaa.Gf

/-
  THE DOCUMENT's ANSWER FOR LAYER 4 (package aumbryref04) BY CONTRACT.
-/

namespace Go.Proofs.Ytfdihdndldiafaa.Gf
set_option linter.unusedVariables false
set_option linter.unusedSimpArgs false
open Go.RowKit

theorem val_int32 {k : IntKind} {a b : Int} (h : a = b) : Value.int k a = .int k b := by rw [h]
theorem not_u32 {s : Nat} (hs : s < 4294967296) : bits .xor .u32 IntKind.u32.max (s : Int) = ((nt s : Nat) : Int) := by
  rw [show IntKind.u32.max = ((4294967295 : Nat) : Int) from rfl, u32_xor_nat _ _ (by decide) hs, nt_xor hs, Nat.xor_comm]
theorem bit0_u32 {s : Nat} (hs : s < 4294967296) : (bits .and .u32 (s : Int) 1 == 1) = decide (s % 2 = 1) := by
  rw [show (1 : Int) = ((1 : Nat) : Int) from rfl, u32_and_nat s 1 hs (by decide), Bool.eq_iff_iff, beq_iff_eq, decide_eq_true_eq, Nat.and_one_is_mod]
  omega
theorem st_odd {s : Nat} (hs : s < 4294967296) (h : s % 2 = 1) : bits .xor .u32 ((s : Int) / 2) 2197175160 = ((st s : Nat) : Int) := by
  rw [show (s : Int) / 2 = ((s / 2 : Nat) : Int) by omega, show (2197175160 : Int) = ((2197175160 : Nat) : Int) from rfl, u32_xor_nat _ _ (by omega) (by decide)]
  unfold st; rw [if_pos h]
theorem st_even {s : Nat} (h : ¬ s % 2 = 1) : (s : Int) / 2 = ((st s : Nat) : Int) := by
  unfold st; rw [if_neg h]; omega

set_option maxRecDepth 100000 in
set_option maxHeartbeats 1000000 in
theorem rstep_any (x b : Nat) (w : World) (hx : x < 4294967296) (hb : b < 256) :
    Calls Try.prog 27 #[.int .u32 (x : Int), .int .u8 (b : Int)] w fun e w' => e = .returned (.int .u32 ((sb x b : Nat) : Int)) ∧ w' = w := by
  have E0 := u32_xor_nat x b hx (by omega)
  have hy := xor32 hx (show b < 4294967296 by omega)
  have H8 : Hid (sb x b = stK 8 (x ^^^ b)) := rfl
  obtain ⟨y, ey⟩ : ∃ y, Hid (y = x ^^^ b) := ⟨_, rfl⟩
  rw [← ey.out] at hy E0 H8
  go_enter Try.func27, Try.ntmps27
  go_wp2
  go_loop [0, 5] (fun o i => ∃ k : Nat, k ≤ 8 ∧ i = .int .i64 k ∧ o = .int .u32 ((stK k y : Nat) : Int)) (fun _ i => 8 - (intOf i).toNat)
  case atStart => exact ⟨0, by omega, rfl, rfl⟩
  case round =>
    obtain ⟨k, hk, rfl, rfl⟩ := hrel
    have hs := stK_lt hy k
    have HS : Hid (stK (k + 1) y = st (stK k y)) := rfl
    obtain ⟨s, es⟩ : ∃ s, Hid (s = stK k y) := ⟨_, rfl⟩
    by_cases hlt : k < 8
    · rw [← es.out] at hs HS ⊢
      by_cases h2 : s % 2 = 1
      · have d := bit0_u32 hs
        rw [decide_eq_true h2] at d
        have X : Hid (bits .xor .u32 ((s : Int) / 2) 2197175160 = ((stK (k + 1) y : Nat) : Int)) := by show _ = _; rw [HS.out]; exact st_odd hs h2
        go_wp2
        go_round
        case rel => exact ⟨k + 1, by omega, by go_num, val_int32 X.out⟩
        case measure => simp [intOf]; omega
      · have d := bit0_u32 hs
        rw [decide_eq_false h2] at d
        have X : Hid ((s : Int) / 2 = ((stK (k + 1) y : Nat) : Int)) := by show _ = _; rw [HS.out]; exact st_even h2
        go_wp2
        go_round
        case rel => exact ⟨k + 1, by omega, by go_num, val_int32 X.out⟩
        case measure => simp [intOf]; omega
    · have e : k = 8 := by omega
      subst e
      go_wp2
      go_ret
      exact ⟨by rw [H8.out]; rfl, rfl⟩
theorem rstep_at {w : World} (x : Nat) (b : UInt8) {u v : Int} (hu : u = (x : Int)) (hv : v = ((b.toNat : Nat) : Int)) (hx : x < 4294967296) :
    Calls Try.prog 27 #[.int .u32 u, .int .u8 v] w fun e w' => e = .returned (.int .u32 ((sb x b.toNat : Nat) : Int)) ∧ w' = w := by
  subst hu hv
  exact rstep_any x b.toNat w hx b.toNat_lt

set_option maxRecDepth 100000 in
set_option maxHeartbeats 1000000 in
theorem rmore_any {s : Nat} {v : Value} {p : List UInt8} {w : World} {u : Int} (hu : u = (s : Int)) (hs : s < 4294967296) (hp : Rd w v p) (hl : p.length ≤ 1000000) :
    Calls Try.prog 25 #[.int .u32 u, v] w fun e w' => e = .returned (.int .u32 ((more s p : Nat) : Int)) ∧ w' = w := by
  subst hu
  have N0 := not_u32 hs
  have hn := nt_lt s
  have HM : Hid (more s p = nt (run (nt s) p)) := rfl
  have N1 := not_u32 (run_lt hn p)
  rw [← HM.out] at N1
  obtain ⟨y, ey⟩ : ∃ y, Hid (y = nt s) := ⟨_, rfl⟩
  rw [← ey.out] at N0 hn N1
  rcases hp with ⟨a, c, rfl, rfl, _⟩ | ⟨b, o, c, hp0, rfl, h1, h2, h3, hpc⟩
  · go_enter Try.func25, Try.ntmps25
    go_wp2
    go_loop [5, 6] (fun o i => i = .int .i64 0 ∧ o = .int .u32 (y : Int)) (fun _ _ => 0)
    case atStart => exact ⟨rfl, rfl⟩
    case round =>
      obtain ⟨rfl, rfl⟩ := hrel
      have N2 : bits .xor .u32 IntKind.u32.max (y : Int) = ((more s [] : Nat) : Int) := N1
      clear N1
      go_wp2
      go_ret
      exact ⟨rfl, rfl⟩
  · go_enter Try.func25, Try.ntmps25
    go_wp2
    go_loop [5, 6] (fun x i => ∃ k : Nat, k ≤ p.length ∧ i = .int .i64 k ∧ x = .int .u32 ((run y (p.take k) : Nat) : Int)) (fun _ i => p.length - (intOf i).toNat)
    case atStart => exact ⟨0, by omega, rfl, rfl⟩
    case round =>
      obtain ⟨k, hk, rfl, rfl⟩ := hrel
      have hr := run_lt hn (p.take k)
      by_cases hlt : k < p.length
      · have hlt' : (k : Int) < (p.length : Int) := by omega
        have c1 := hpc k hlt
        have HS : Hid (run y (p.take (k + 1)) = sb (run y (p.take k)) (co p k).toNat) := by show _ = _; rw [run_take y p hlt, co_lt hlt]
        clear hpc
        obtain ⟨z, ez⟩ : ∃ z, Hid (z = run y (p.take k)) := ⟨_, rfl⟩
        rw [← ez.out] at hr HS ⊢
        go_wp2_with fail
        refine (rstep_at z (co p k) rfl rfl hr).mono ?_
        rintro e w' ⟨rfl, rfl⟩
        go_wp2
        go_round
        case rel => exact ⟨k + 1, by omega, by go_num, by rw [HS.out]⟩
        case measure => simp [intOf]; omega
      · have e : k = p.length := by omega
        have ht : p.take k = p := List.take_of_length_le (by omega)
        have hge : ¬ (k : Int) < (p.length : Int) := by omega
        rw [ht]
        clear hpc ht e
        go_wp2
        go_ret
        exact ⟨rfl, rfl⟩

set_option maxRecDepth 100000 in
set_option maxHeartbeats 1000000 in
theorem rsum_any {v : Value} {p : List UInt8} {w : World} (hp : Rd w v p) (hl : p.length ≤ 1000000) :
    Calls Try.prog 19 #[v] w fun e w' => e = .returned (.int .u32 ((more 0 p : Nat) : Int)) ∧ w' = w := by
  go_enter Try.func19, Try.ntmps19
  go_wp2_with fail
  refine (rmore_any (s := 0) rfl (by decide) hp hl).mono ?_
  rintro e w' ⟨rfl, rfl⟩
  go_wp2
  go_ret
  exact ⟨rfl, rfl⟩

end Go.Proofs.Ytfdihdndldiafaa.Gf

/-
  THE PROGRAM's CHECK SUMS BY CONTRACT (as of 2caf58b).
-/

namespace Go.Proofs.Ytfdihdndldiafaa.Gf
set_option linter.unusedVariables false
set_option linter.unusedSimpArgs false
open Go.RowKit

theorem stK_add (a b x : Nat) : stK (a + b) x = stK a (stK b x) := by
  induction a with
  | zero => rw [Nat.zero_add]; rfl
  | succ a ih => rw [show a + 1 + b = (a + b) + 1 by omega]; show st (stK (a + b) x) = st (stK a (stK b x)); rw [ih]
theorem stK_even {t : Nat} : ∀ m, t % 2 ^ m = 0 → stK m t = t / 2 ^ m
  | 0, _ => by simp [stK]
  | m + 1, h => by
    have h1 : t % 2 ^ m = 0 := by
      have e : t % 2 ^ (m + 1) % 2 ^ m = t % 2 ^ m := Nat.mod_mod_of_dvd t ⟨2, by rw [Nat.pow_succ]⟩
      rw [h] at e
      simpa using e.symm
    show st (stK m t) = _
    rw [stK_even m h1]
    have h2 : t / 2 ^ m % 2 = 0 := by
      rw [Nat.pow_succ, Nat.mod_mul] at h
      have := Nat.two_pow_pos m
      rcases Nat.eq_zero_or_pos (t / 2 ^ m % 2) with h3 | h3
      · exact h3
      · have := Nat.mul_pos this h3
        omega
    unfold st
    rw [if_neg (by omega), Nat.div_div_eq_div_mul, Nat.pow_succ]
/-- where no 1 is left among the lowest bits nothing but shifts is left to do -/
theorem stK_early {q j t : Nat} (hj : j < 8) (ht : t = stK j q) (h : t % 256 * 2 ^ j % 256 = 0) : t / 2 ^ (8 - j) = stK 8 q := by
  have e : stK 8 q = stK (8 - j) t := by rw [ht, ← stK_add]; congr 1; omega
  rw [e, stK_even]
  have h1 : t * 2 ^ j % 256 = 0 := by rw [Nat.mod_mul_mod] at h; exact h
  have h2 : (256 : Nat) = 2 ^ (8 - j) * 2 ^ j := by rw [← Nat.pow_add, show 8 - j + j = 8 by omega]
  rw [h2, Nat.mul_mod_mul_right] at h1
  rcases Nat.mul_eq_zero.1 h1 with h3 | h3
  · exact h3
  · exact absurd h3 (Nat.pos_iff_ne_zero.1 (Nat.two_pow_pos j))
theorem bit0_even {s : Nat} (hs : s < 4294967296) : (bits .and .u32 (s : Int) 1 == 0) = decide (¬ s % 2 = 1) := by
  rw [show (1 : Int) = ((1 : Nat) : Int) from rfl, u32_and_nat s 1 hs (by decide), Bool.eq_iff_iff, beq_iff_eq, decide_eq_true_eq, Nat.and_one_is_mod]
  omega

set_option maxRecDepth 100000 in
set_option maxHeartbeats 1000000 in
theorem cshifted_any {s : Nat} {w : World} {u : Int} (hu : u = (s : Int)) (hs : s < 4294967296) :
    Calls Try.prog 26 #[.int .u32 u] w fun e w' => e = .returned (.int .u32 ((st s : Nat) : Int)) ∧ w' = w := by
  subst hu
  have d := bit0_even hs
  by_cases h2 : s % 2 = 1
  · rw [decide_eq_false (by omega)] at d
    have X : Hid (bits .xor .u32 ((s : Int) / 2) 2197175160 = ((st s : Nat) : Int)) := st_odd hs h2
    go_enter Try.func26, Try.ntmps26
    go_wp2
    go_ret
    exact ⟨by rw [X.out]; rfl, rfl⟩
  · rw [decide_eq_true h2] at d
    have X : Hid ((s : Int) / 2 = ((st s : Nat) : Int)) := st_even h2
    go_enter Try.func26, Try.ntmps26
    go_wp2
    go_ret
    exact ⟨by rw [X.out]; rfl, rfl⟩

set_option maxRecDepth 100000 in
set_option maxHeartbeats 1000000 in
theorem cmore_any {s : Nat} {v : Value} {p : List UInt8} {w : World} {u : Int} (hu : u = (s : Int)) (hs : s < 4294967296) (hp : Rd w v p) (hl : p.length ≤ 1000000) :
    Calls Try.prog 24 #[.int .u32 u, v] w fun e w' => e = .returned (.int .u32 ((more s p : Nat) : Int)) ∧ Below w.heap.size w w' := by
  subst hu
  have N0 := not_u32 hs
  have hn := nt_lt s
  have HM : Hid (more s p = nt (run (nt s) p)) := rfl
  have N1 := not_u32 (run_lt hn p)
  rw [← HM.out] at N1
  obtain ⟨y, ey⟩ : ∃ y, Hid (y = nt s) := ⟨_, rfl⟩
  rw [← ey.out] at N0 hn N1
  obtain ⟨a, c, rfl⟩ := hp.form
  go_enter Try.func24, Try.ntmps24
  go_wp2
  go_step3
  go_wp2
  go_step3
  go_wp2
  go_loop [5, 13] (fun x i => ∃ k : Nat, k ≤ p.length ∧ i = .int .i64 k ∧ x = .int .u32 ((run y (p.take k) : Nat) : Int)) (fun _ i => p.length - (intOf i).toNat)
  case atStart => exact ⟨0, by omega, rfl, rfl⟩
  case round =>
    obtain ⟨k, hk, rfl, rfl⟩ := hrel
    have hr := run_lt hn (p.take k)
    by_cases hlt : k < p.length
    · have hlt' : (k : Int) < (p.length : Int) := by omega
      rcases hp with ⟨a, c, rfl, _⟩ | ⟨b, o, c, hp0, e0, h1, h2, h3, hpc⟩
      · simp at hlt
      · simp at e0
        obtain ⟨rfl, rfl⟩ := e0
        have c1 := hpc k hlt
        have HS : Hid (run y (p.take (k + 1)) = stK 8 (run y (p.take k) ^^^ (co p k).toNat)) := by show _ = _; rw [run_take y p hlt, co_lt hlt]; rfl
        clear hpc
        obtain ⟨z, ez⟩ : ∃ z, Hid (z = run y (p.take k)) := ⟨_, rfl⟩
        rw [← ez.out] at hr HS ⊢
        have X0 := u32_xor_nat z (co p k).toNat hr (byte32 _)
        have hq := xor32 hr (byte32 (co p k))
        have m0 : (((co p k).toNat : Nat) : Int) % 4294967296 = (((co p k).toNat : Nat) : Int) := by have := (co p k).toNat_lt; omega
        obtain ⟨q, eq⟩ : ∃ q, Hid (q = z ^^^ (co p k).toNat) := ⟨_, rfl⟩
        rw [← eq.out] at X0 hq HS
        go_wp2
        go_loop [5, 8, 21] (fun x l i => ∃ j : Nat, j ≤ 8 ∧ i = .int .i64 j ∧ x = .int .u32 ((stK j q : Nat) : Int)) (fun _ _ i => 8 - (intOf i).toNat)
        case atStart => exact ⟨0, by omega, rfl, rfl⟩
        case round =>
          obtain ⟨j, hj, rfl, rfl⟩ := hrel
          have ht := stK_lt hq j
          have HT : Hid (stK (j + 1) q = st (stK j q)) := rfl
          obtain ⟨t, et⟩ : ∃ t, Hid (t = stK j q) := ⟨_, rfl⟩
          by_cases hj8 : j < 8
          · rw [← et.out] at ht HT ⊢
            by_cases hz : t % 256 * 2 ^ j % 256 = 0
            · have D : ((t : Int) % 256 * 2 ^ j % 256 == 0) = true := by rw [beq_iff_eq]; exact_mod_cast hz
              have HE : Hid (t / 2 ^ (8 - j) = stK 8 q) := stK_early hj8 et.out hz
              go_wp2
              exact ⟨⟨k + 1, by omega, by go_num, val_int32 (by rw [HS.out, ← HE.out]; norm_cast)⟩, by simp [intOf]; omega⟩
            · have D : ((t : Int) % 256 * 2 ^ j % 256 == 0) = false := by rw [beq_eq_false_iff_ne]; exact_mod_cast hz
              go_wp2_with fail
              refine (cshifted_any rfl ht).mono ?_
              rintro e w' ⟨rfl, rfl⟩
              go_wp2
              go_round
              case rel => exact ⟨j + 1, by omega, by go_num, by rw [HT.out]⟩
              case measure => simp [intOf]; omega
          · have e : j = 8 := by omega
            subst e
            go_wp2
            go_round
            case rel => exact ⟨k + 1, by omega, by go_num, by rw [HS.out]⟩
            case measure => simp [intOf]; omega
    · have e : k = p.length := by omega
      have ht : p.take k = p := List.take_of_length_le (by omega)
      have hge : ¬ (k : Int) < (p.length : Int) := by omega
      rw [ht]
      clear ht e
      go_wp2
      try rw [Exit.noGoto_ret]
      go_ret
      exact ⟨rfl, Below.refl _ _⟩

set_option maxRecDepth 100000 in
set_option maxHeartbeats 1000000 in
theorem csum_any {v : Value} {p : List UInt8} {w : World} (hp : Rd w v p) (hl : p.length ≤ 1000000) :
    Calls Try.prog 17 #[v] w fun e w' => e = .returned (.int .u32 ((more 0 p : Nat) : Int)) ∧ Below w.heap.size w w' := by
  go_enter Try.func17, Try.ntmps17
  go_wp2_with fail
  refine (cmore_any (s := 0) rfl (by decide) hp hl).mono ?_
  rintro e w' ⟨rfl, b⟩
  go_wp2
  go_ret
  exact ⟨rfl, b⟩

end Go.Proofs.Ytfdihdndldiafaa.Gf

/-
  THE DOCUMENT's ANSWER FOR LAYER 2 (package aumbryref02) BY CONTRACT: 'Same' tells whether two lists of bytes are one.
-/

namespace Go.Proofs.Ytfdihdndldiafaa.Gf
set_option linter.unusedVariables false
set_option linter.unusedSimpArgs false
open Go.RowKit

def sameB (p q : List UInt8) : Bool := decide (p = q)
theorem sameB_self (p : List UInt8) : sameB p p = true := decide_eq_true rfl
theorem sameB_of {p q : List UInt8} (h : p = q) : sameB p q = true := decide_eq_true h

set_option maxRecDepth 100000 in
set_option maxHeartbeats 1000000 in
/-- of unlike lengths -/
theorem same_len (a b : Option Addr) (n m c d : Nat) (w : World) (h : n ≠ m) :
    Calls Try.prog 14 #[.slice a n c, .slice b m d] w fun e w' => e = .returned (.bool false) ∧ w' = w := by
  have hb : ((n : Int) != (m : Int)) = true := by simp; omega
  go_enter Try.func14, Try.ntmps14
  go_wp2
  go_ret
  exact ⟨rfl, rfl⟩

set_option maxRecDepth 100000 in
set_option maxHeartbeats 1000000 in
/-- of nothing -/
theorem same_nil (a b : Option Addr) (c d : Nat) (w : World) :
    Calls Try.prog 14 #[.slice a 0 c, .slice b 0 d] w fun e w' => e = .returned (.bool true) ∧ w' = w := by
  go_enter Try.func14, Try.ntmps14
  go_wp2
  go_loop [5] (fun i => i = .int .i64 0) (fun _ => 0)
  case atStart => rfl
  case round =>
    subst hrel
    go_wp2
    go_ret
    exact ⟨rfl, rfl⟩

set_option maxRecDepth 100000 in
set_option maxHeartbeats 1000000 in
theorem same_main (b off b' off' c d : Nat) (p q : List UInt8) (w : World) (hl : q.length = p.length) (hm : p.length ≤ 9223372036854775807)
    (hp : ∀ i, i < p.length → w.cell? ⟨b, off + i, none⟩ = some (.int .u8 ((co p i).toNat : Nat)))
    (hq : ∀ i, i < p.length → w.cell? ⟨b', off' + i, none⟩ = some (.int .u8 ((co q i).toNat : Nat))) :
    Calls Try.prog 14 #[.slice (some ⟨b, off, none⟩) p.length c, .slice (some ⟨b', off', none⟩) p.length d] w fun e w' => e = .returned (.bool (sameB p q)) ∧ ∃ n, w' = w.drewN n := by
  have hb : ((p.length : Int) != (p.length : Int)) = false := by simp
  go_enter Try.func14, Try.ntmps14
  go_wp2
  clear hb
  go_loopw [5] (fun i wr => ∃ k : Nat, k ≤ p.length ∧ i = .int .i64 k ∧ Hid (∀ j, j < k → co p j = co q j) ∧ ∃ n, wr = w.drewN n) (fun i _ => p.length - (intOf i).toNat)
  case atStart => exact ⟨0, by omega, rfl, fun j hj => by omega, 0, rfl⟩
  case round =>
    obtain ⟨k, hk, rfl, hs, nd, rfl⟩ := hrel
    by_cases hlt : k < p.length
    · have c1 := hp k hlt
      have c2 := hq k hlt
      by_cases e : co p k = co q k
      · have hn : ((((co p k).toNat : Nat) : Int) != (((co q k).toNat : Nat) : Int)) = false := by rw [ne_u8]; simp [e]
        have HS : Hid (∀ j, j < k + 1 → co p j = co q j) := fun j hj => by
          by_cases e2 : j = k
          · rw [e2]; exact e
          · exact hs.out j (by omega)
        clear e hp hq hs
        go_wp2
        go_quiet (fail)
        go_wp2
        go_roundw
        case rel => exact ⟨k + 1, by omega, by go_num, HS, _, rfl⟩
        case measure => simp [intOf]; omega
      · have hn : ((((co p k).toNat : Nat) : Int) != (((co q k).toNat : Nat) : Int)) = true := by rw [ne_u8]; simp [e]
        have E : Hid (sameB p q = false) := by
          refine decide_eq_false (fun h => e ?_)
          rw [h]
        clear e hp hq hs
        go_wp2
        go_quiet (fail)
        go_wp2
        go_ret
        exact ⟨by rw [E.out]; rfl, _, World.drewN_drewN _ _ _⟩
    · have E : Hid (sameB p q = true) := sameB_of (co_ext hl.symm (fun i hi => hs.out i (by omega)))
      clear hp hq hs
      go_wp2
      go_ret
      exact ⟨by rw [E.out]; rfl, _, rfl⟩

theorem same_any {va vb : Value} {p q : List UInt8} {w : World} (hp : Rd w va p) (hq : Rd w vb q) :
    Calls Try.prog 14 #[va, vb] w fun e w' => e = .returned (.bool (sameB p q)) ∧ ∃ n, w' = w.drewN n := by
  have l1 := hp.len
  have l2 := hq.len
  unfold maxLen at l1 l2
  by_cases hl : p.length = q.length
  · rcases hp with ⟨a, c, rfl, rfl, _⟩ | ⟨b, off, c, hp0, rfl, _, _, _, hpc⟩
    · have : q = [] := List.length_eq_zero_iff.1 (by simpa using hl.symm)
      subst this
      rcases hq with ⟨a', c', _, rfl, _⟩ | ⟨_, _, _, h, _⟩
      · exact (same_nil a a' c c' w).mono fun e w' ⟨he, hw⟩ => ⟨by rw [he, sameB_self], 0, hw⟩
      · exact absurd rfl h
    · rcases hq with ⟨a', c', rfl, rfl, _⟩ | ⟨b', off', c', hq0, rfl, _, _, _, hqc⟩
      · exact absurd (List.length_eq_zero_iff.1 hl) hp0
      · rw [← hl]
        exact same_main b off b' off' c c' p q w hl.symm (by omega) hpc (fun i hi => hqc i (by omega))
  · have E : sameB p q = false := decide_eq_false (fun h => hl (by rw [h]))
    have key : ∃ a n c, va = .slice a n c ∧ n = p.length := by
      rcases hp with ⟨a, c, rfl, rfl, _⟩ | ⟨b, off, c, hp0, rfl, _⟩
      · exact ⟨_, _, _, rfl, rfl⟩
      · exact ⟨_, _, _, rfl, rfl⟩
    have key2 : ∃ a n c, vb = .slice a n c ∧ n = q.length := by
      rcases hq with ⟨a, c, rfl, rfl, _⟩ | ⟨b, off, c, hp0, rfl, _⟩
      · exact ⟨_, _, _, rfl, rfl⟩
      · exact ⟨_, _, _, rfl, rfl⟩
    obtain ⟨a, n, c, rfl, rfl⟩ := key
    obtain ⟨a', n', c', rfl, rfl⟩ := key2
    exact (same_len a a' _ _ c c' w hl).mono fun e w' ⟨he, hw⟩ => ⟨by rw [he, E], 0, hw⟩

/-- the same, for a caller: the world behind it is a new letter -/
theorem same_b {va vb : Value} {p q : List UInt8} {w : World} (hp : Rd w va p) (hq : Rd w vb q) :
    Calls Try.prog 14 #[va, vb] w fun e w' => e = .returned (.bool (sameB p q)) ∧ Below w.heap.size w w' :=
  (same_any hp hq).mono fun e w' ⟨he, n, hw⟩ => ⟨he, by rw [hw]; exact ⟨rfl, rfl, rfl, Nat.le_refl _, fun _ _ => rfl⟩⟩

end Go.Proofs.Ytfdihdndldiafaa.Gf

/-
  'bytes.Equal' BY CONTRACT.
-/

namespace Go.Proofs.Ytfdihdndldiafaa.Gf
set_option linter.unusedVariables false
set_option linter.unusedSimpArgs false
open Go.RowKit

theorem conv_str {w : World} {v : Value} {p : List UInt8} (h : Rd w v p) : Sem.run Try.prog (convert 23 9 v) w = .ok (.string ⟨p.toArray⟩) w := by
  rcases h with ⟨a, c, rfl, rfl, _⟩ | ⟨b, off, cap, hp0, rfl, h1, h2, h3, hpc⟩
  · rcases a with _ | a
    · kernel_rfl
    · kernel_rfl
  · rw [run_convert_bytes_arg (P := Try.prog) w 23 5 Try.underlying23 Try.underlying5 b off p.length cap (p.map fun x => ((x.toNat : Nat) : Int)) (by simp) (fun i hi => by rw [hpc i hi, co_lt hi]; simp [List.getD, hi]) 9 Try.underlying9]
    unfold strOfNums
    congr 4
    rw [List.map_map]
    conv => rhs; rw [← List.map_id p]
    apply List.map_congr_left
    intro b _
    simp
set_option maxRecDepth 100000 in
set_option maxHeartbeats 1000000 in
theorem beq_any {va vb : Value} {p q : List UInt8} {w : World} (hp : Rd w va p) (hq : Rd w vb q) : Calls Try.prog 21 #[va, vb] w fun e w' => e = .returned (.bool (sameB p q)) ∧ w' = w := by
  have h1 := conv_str hp
  have h2 := conv_str hq
  obtain ⟨a, c, rfl⟩ := hp.form
  obtain ⟨a', c', rfl⟩ := hq.form
  clear hp hq
  go_enter Try.func21, Try.ntmps21
  go_wp2
  go_ret
  have e : (p == q) = sameB p q := by unfold sameB; rw [Bool.eq_iff_iff]; simp
  exact ⟨congrArg (fun b => Ending.returned (.bool b)) e, rfl⟩

end Go.Proofs.Ytfdihdndldiafaa.Gf

