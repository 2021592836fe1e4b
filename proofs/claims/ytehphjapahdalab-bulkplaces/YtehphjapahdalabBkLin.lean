/-
  STRIPES ARE LINEAR: the mathematics of layer 6. No program's function is named here.
-/
import Derived.Test.YtehphjapahdalabBkAddM
import Derived.Test.YtehphjapahdalabBkUy
import Derived.Test.YtehphjapahdalabCaLaws
namespace Go.Proofs.Ytehphjapahdalab.Gf
set_option linter.unusedVariables false
set_option linter.unusedSimpArgs false
open Go.RowKit

/-- lists of shards are told by their lengths and bytes -/
theorem L_ext {L M : List (List UInt8)} (h : L.length = M.length) (h1 : ∀ i, i < L.length → (ro L i).length = (ro M i).length) (h2 : ∀ i n, i < L.length → n < (ro L i).length → co (ro L i) n = co (ro M i) n) : L = M :=
  ro_ext h fun i hi => co_ext (h1 i hi) fun n hn => h2 i n hi hn
theorem enc_row_lt {m k : Nat} {F : Mx} {L : List (List UInt8)} {i : Nat} (h : i < L.length) : ro (encL m k F L) i = ro L i := ro_append_left h
theorem enc_row_ge {m k : Nat} {F : Mx} {L : List (List UInt8)} {i : Nat} (h : i < m) : ro (encL m k F L) (L.length + i) = parR k F L i := by
  unfold encL
  rw [ro_append_right (by omega), show L.length + i - L.length = i by omega, ro_mkL h]
theorem enc_row_ge' {m k : Nat} {F : Mx} {L : List (List UInt8)} {i : Nat} (h : L.length ≤ i) (h2 : i < L.length + m) : ro (encL m k F L) i = parR k F L (i - L.length) := by
  have := enc_row_ge (m := m) (k := k) (F := F) (L := L) (i := i - L.length) (by omega)
  rwa [show L.length + (i - L.length) = i by omega] at this
theorem enc_len {m k : Nat} {F : Mx} {L : List (List UInt8)} (hE : Even L) {i : Nat} (h : i < L.length + m) : (ro (encL m k F L) i).length = (ro L 0).length := by
  by_cases e : i < L.length
  · rw [enc_row_lt e]; exact hE i e
  · rw [enc_row_ge' (by omega) h, parR_length]
theorem enc_even {m k : Nat} {F : Mx} {L : List (List UInt8)} (hE : Even L) (h0 : 0 < L.length) : Even (encL m k F L) := fun i hi => by
  rw [encL_length] at hi
  rw [enc_len hE hi, enc_len hE (by omega)]
theorem enc_small {m k : Nat} {F : Mx} {L : List (List UInt8)} (hE : Even L) (h : L.length + m ≤ 300) (hS : Small L) : Small (encL m k F L) := ⟨by rw [encL_length]; exact h, fun i => by
  by_cases e : i < L.length + m
  · rw [enc_len hE e]; exact hS.2 0
  · rw [ro_ge (by rw [encL_length]; omega)]; simp⟩
theorem enc_take {m k : Nat} {F : Mx} {L : List (List UInt8)} (h : L.length = k) : (encL m k F L).take k = L := by
  unfold encL
  rw [← h]; exact List.take_left
theorem enc_drop {m k : Nat} {F : Mx} {L : List (List UInt8)} (h : L.length = k) : (encL m k F L).drop k = mkL m (parR k F L) := by
  unfold encL
  rw [← h]; exact List.drop_left
theorem wd_add {F : Mx} {A B C : List (List UInt8)} {i k n : Nat} (h : ∀ l, l < k → co (ro C l) n = co (ro A l) n ^^^ co (ro B l) n) : wd F C i k n = wd F A i k n ^^^ wd F B i k n := by
  unfold wd
  rw [← S_xor]
  exact S_congr fun l hl => by rw [h l hl, mu_xor]
theorem addL_length (A B : List (List UInt8)) : (addL A B).length = A.length := mkL_length _ _
theorem addL_row {A B : List (List UInt8)} {i : Nat} (h : i < A.length) : (ro (addL A B) i).length = (ro A i).length := by unfold addL; rw [ro_mkL h, upto_length]
theorem addL_co {A B : List (List UInt8)} {i n : Nat} (h : i < A.length) (hn : n < (ro A i).length) : co (ro (addL A B) i) n = co (ro A i) n ^^^ co (ro B i) n := by
  unfold addL; rw [ro_mkL h, co_upto_in hn]
theorem addL_even {A B : List (List UInt8)} (hE : Even A) : Even (addL A B) := fun i hi => by
  rw [addL_length] at hi
  rw [addL_row hi, addL_row (by omega)]; exact hE i hi
theorem addL_small {A B : List (List UInt8)} (hS : Small A) : Small (addL A B) := ⟨by rw [addL_length]; exact hS.1, fun i => by
  by_cases e : i < A.length
  · rw [addL_row e]; exact hS.2 i
  · rw [ro_ge (by rw [addL_length]; omega)]; simp⟩
theorem enc_add {m k : Nat} {F : Mx} {A B : List (List UInt8)} (hA : A.length = k) (hB : B.length = k) (h0 : 0 < k) (hE : Even A) (hE2 : Even B) (hl : (ro A 0).length = (ro B 0).length) : encL m k F (addL A B) = addL (encL m k F A) (encL m k F B) := by
  have hEn := addL_even (B := B) hE
  refine L_ext (by rw [encL_length, addL_length, addL_length, encL_length]) (fun i hi => ?_) fun i n hi hn => ?_
  · rw [encL_length, addL_length] at hi
    rw [enc_len hEn (by rw [addL_length]; exact hi), addL_row (by omega), addL_row (by rw [encL_length]; exact hi), enc_len hE hi]
  · rw [encL_length, addL_length] at hi
    rw [enc_len hEn (by rw [addL_length]; exact hi), addL_row (by omega)] at hn
    rw [addL_co (by rw [encL_length]; exact hi) (by rw [enc_len hE hi]; exact hn)]
    by_cases e : i < A.length
    · rw [enc_row_lt (by rw [addL_length]; exact e), enc_row_lt e, enc_row_lt (by omega), addL_co e (by rw [hE i e]; exact hn)]
    · rw [enc_row_ge' (by rw [addL_length]; omega) (by rw [addL_length]; exact hi), enc_row_ge' (by omega) hi, enc_row_ge' (by omega) (by omega), addL_length, hA, hB]
      unfold parR
      rw [co_upto_in (by rw [addL_row (by omega)]; exact hn), co_upto_in hn, co_upto_in (by omega)]
      exact wd_add fun l hl => addL_co (by omega) (by rw [hE l (by omega)]; exact hn)

/-- a data shard that is another one -/
theorem upd_enc {m k j : Nat} {F : Mx} {L : List (List UInt8)} {q : List UInt8} (hL : L.length = k) (hj : j < k) (hE : Even L) (hq : q.length = (ro L 0).length) : updL m F j (ro L j) q (mkL m (parR k F L)) = mkL m (parR k F (L.set j q)) := by
  refine mkL_congr fun i hi => ?_
  unfold updR
  rw [ro_mkL hi, parR_length]
  have e0 : (ro (L.set j q) 0).length = (ro L 0).length := by
    rw [ro_set (by omega)]
    by_cases e : 0 = j
    · rw [if_pos e, hq]
    · rw [if_neg e]
  unfold parR
  rw [e0]
  refine upto_congr fun n hn => ?_
  rw [co_upto_in hn]
  unfold wd
  have h1 : S k (fun l => mu (F i l) (co (ro (L.set j q) l) n)) = S k (fun l => mu (F i l) (co (ro L l) n) ^^^ (if l = j then mu (F i j) (co (ro L j) n ^^^ co q n) else 0)) := S_congr fun l hl => by
    rw [ro_set (by omega)]
    by_cases e : l = j
    · subst e
      rw [if_pos rfl, if_pos rfl, mu_xor, ← x_assoc, x_self, zero_x]
    · rw [if_neg e, if_neg e, x_zero]
  rw [h1, S_xor]
  congr 1
  rw [S_one hj (fun l hl hne => if_neg hne), if_pos rfl]
theorem upd_ok_of {m k j : Nat} {F : Mx} {L : List (List UInt8)} {q : List UInt8} (hL : L.length = k) (hj : j < k) (hE : Even L) (hq : q.length = (ro L 0).length) : OkU k m j (ro L j) q (mkL m (parR k F L)) := by
  refine ⟨by rw [mkL_length], fun i hi => ?_, by omega, by omega⟩
  have all : ∀ i, i < m + 2 → (ro (mkL m (parR k F L) ++ [ro L j, q]) i).length = (ro L 0).length := fun i hi => by
    by_cases e : i < m
    · rw [ro_append_left (by rw [mkL_length]; exact e), ro_mkL e, parR_length]
    · rw [ro_append_right (by rw [mkL_length]; omega), mkL_length]
      rcases Nat.lt_or_ge (i - m) 1 with h | h
      · rw [show i - m = 0 by omega]; exact hE j (by omega)
      · rw [show i - m = 1 by omega]; exact hq
  rw [List.length_append, mkL_length] at hi
  rw [all i (by simpa using hi), all 0 (by omega)]
theorem set_even {L : List (List UInt8)} {j : Nat} {q : List UInt8} (hj : j < L.length) (hE : Even L) (hq : q.length = (ro L 0).length) : Even (L.set j q) := by
  have all : ∀ i, i < L.length → (ro (L.set j q) i).length = (ro L 0).length := fun i hi => by
    rw [ro_set hj]
    by_cases e : i = j
    · rw [if_pos e, hq]
    · rw [if_neg e]; exact hE i hi
  intro i hi
  rw [List.length_set] at hi
  rw [all i hi, all 0 (by omega)]
theorem set_small {L : List (List UInt8)} {j : Nat} {q : List UInt8} (hS : Small L) (hj : j < L.length) (hq : q.length ≤ 300) : Small (L.set j q) := ⟨by rw [List.length_set]; exact hS.1, fun i => by
  rw [ro_set hj]
  by_cases e : i = j
  · rw [if_pos e]; exact hq
  · rw [if_neg e]; exact hS.2 i⟩
theorem mk_small {m k : Nat} {F : Mx} {L : List (List UInt8)} (hm : m ≤ 300) (hS : Small L) : Small (mkL m (parR k F L)) := ⟨by rw [mkL_length]; exact hm, fun i => by
  by_cases e : i < m
  · rw [ro_mkL e, parR_length]; exact hS.2 0
  · rw [ro_ge (by rw [mkL_length]; omega)]; simp⟩

/-- one byte that is another one -/
theorem setL_row {L : List (List UInt8)} {i n r : Nat} {y : UInt8} (hi : i < L.length) : (ro (setL L i n y) r).length = (ro L r).length := by
  unfold setL
  rw [ro_set hi]
  by_cases e : r = i
  · subst e; rw [if_pos rfl, List.length_set]
  · rw [if_neg e]
theorem setL_co {L : List (List UInt8)} {i n r t : Nat} {y : UInt8} (hi : i < L.length) (hn : n < (ro L i).length) : co (ro (setL L i n y) r) t = if r = i ∧ t = n then y else co (ro L r) t := by
  unfold setL
  rw [ro_set hi]
  by_cases e : r = i
  · subst e
    rw [if_pos rfl, co_at hn]
    by_cases e2 : t = n
    · rw [if_pos e2, if_pos ⟨rfl, e2⟩]
    · rw [if_neg e2, if_neg (fun h => e2 h.2)]
  · rw [if_neg e, if_neg (fun h => e h.1)]
theorem setL_even {L : List (List UInt8)} {i n : Nat} {y : UInt8} (hi : i < L.length) (hE : Even L) : Even (setL L i n y) := fun r hr => by
  rw [setL_length] at hr
  rw [setL_row hi, setL_row hi]; exact hE r hr
theorem setL_small {L : List (List UInt8)} {i n : Nat} {y : UInt8} (hi : i < L.length) (hS : Small L) : Small (setL L i n y) := ⟨by rw [setL_length]; exact hS.1, fun r => by rw [setL_row hi]; exact hS.2 r⟩
/-- .. is seen by each parity shard -/
theorem wd_set {F : Mx} {L : List (List UInt8)} {i k j n : Nat} {by' : UInt8} (hj : j < k) (hL : L.length = k) (hn : n < (ro L j).length) : wd F (setL L j n (co (ro L j) n ^^^ by')) i k n = wd F L i k n ^^^ mu (F i j) by' := by
  unfold wd
  have h1 : S k (fun l => mu (F i l) (co (ro (setL L j n (co (ro L j) n ^^^ by')) l) n)) = S k (fun l => mu (F i l) (co (ro L l) n) ^^^ (if l = j then mu (F i j) by' else 0)) := S_congr fun l hl => by
    rw [setL_co (by omega) hn]
    by_cases e : l = j
    · subst e; rw [if_pos ⟨rfl, rfl⟩, if_pos rfl, mu_xor]
    · rw [if_neg (fun h => e h.1), if_neg e, x_zero]
  rw [h1, S_xor, S_one hj (fun l hl hne => if_neg hne), if_pos rfl]
theorem x_ne {a b : UInt8} (h : b ≠ 0) : a ^^^ b ≠ a := fun e => h (by have := congrArg (a ^^^ ·) e; simp only [x_cancel, x_self] at this; exact this)
theorem take_setL {L : List (List UInt8)} {j n k : Nat} {y : UInt8} (hj : j < k) (hk : k ≤ L.length) : (setL L j n y).take k = setL (L.take k) j n y := by
  refine ro_ext (by rw [List.length_take, setL_length, setL_length, List.length_take]) fun r hr => ?_
  rw [List.length_take, setL_length] at hr
  rw [ro_take (by omega)]
  unfold setL
  rw [ro_set (by omega), ro_set (by rw [List.length_take]; omega), ro_take hj, ro_take (by omega)]
theorem take_setL' {L : List (List UInt8)} {j n k : Nat} {y : UInt8} (hj : k ≤ j) (hjl : j < L.length) : (setL L j n y).take k = L.take k := by
  refine ro_ext (by rw [List.length_take, setL_length, List.length_take]) fun r hr => ?_
  rw [List.length_take, setL_length] at hr
  rw [ro_take (by omega), ro_take (by omega)]
  unfold setL
  rw [ro_set hjl, if_neg (by omega)]
/-- the parity bytes are others -/
theorem single_ne {m k j n i : Nat} {L : List (List UInt8)} {by' : UInt8} (hL : L.length = k) (hkm : k + m ≤ 256) (hi : i < m) (hj : j < k) (hE : Even L) (hn : n < (ro L 0).length) (hb : by' ≠ 0) :
    co (ro (encL m k (parF k) (setL L j n (co (ro L j) n ^^^ by'))) (k + i)) n ≠ co (ro (encL m k (parF k) L) (k + i)) n := by
  have hnj : n < (ro L j).length := by rw [hE j (by omega)]; exact hn
  have hl : (setL L j n (co (ro L j) n ^^^ by')).length = k := by rw [setL_length, hL]
  rw [show k + i = (setL L j n (co (ro L j) n ^^^ by')).length + i by rw [hl], enc_row_ge hi]
  rw [show (setL L j n (co (ro L j) n ^^^ by')).length + i = L.length + i by rw [setL_length], enc_row_ge hi]
  unfold parR
  rw [co_upto_in (by rw [setL_row (by omega)]; exact hn), co_upto_in hn, wd_set hj hL hnj]
  exact x_ne (mu_ne (par_ne (by omega) hj) hb)
theorem single_fit {m k j n : Nat} {L : List (List UInt8)} {by' : UInt8} (hL : L.length = k) (hk : 1 ≤ k) (hkm : k + m ≤ 256) (hm : 0 < m) (hj : j < k + m) (hE : Even L) (hn : n < (ro L 0).length) (hb : by' ≠ 0) :
    fitX k m (setL (encL m k (parF k) L) j n (co (ro (encL m k (parF k) L) j) n ^^^ by')) = 0 ∧ fitB k m (setL (encL m k (parF k) L) j n (co (ro (encL m k (parF k) L) j) n ^^^ by')) = false := by
  have hXl : (encL m k (parF k) L).length = k + m := by rw [encL_length, hL]
  have hXe : Even (encL m k (parF k) L) := enc_even hE (by omega)
  have hnj : n < (ro (encL m k (parF k) L) j).length := by rw [enc_len hE (by omega)]; exact hn
  have h := fitX_ok (okC_mk hk hkm) (L := setL (encL m k (parF k) L) j n (co (ro (encL m k (parF k) L) j) n ^^^ by')) (by rw [setL_length, hXl]; exact_mod_cast rfl) (setL_even (by omega) hXe)
  refine ⟨h.1, ?_⟩
  rw [h.2]
  refine decide_eq_false fun e => ?_
  by_cases hjk : j < k
  · have e1 : ro (encL m k (parF k) L) j = ro L j := enc_row_lt (by omega)
    rw [take_setL hjk (by omega), enc_take hL, e1] at e
    have h2 := single_ne (i := 0) hL hkm hm hjk hE hn hb
    rw [e] at h2
    rw [setL_co (by omega) hnj, if_neg (by omega)] at h2
    exact h2 rfl
  · rw [take_setL' (by omega) (by omega), enc_take hL] at e
    have h2 := congrArg (fun M => co (ro M j) n) e
    rw [setL_co (by omega) hnj, if_pos ⟨rfl, rfl⟩] at h2
    exact x_ne hb h2.symm

/-- one place alone -/
def oneL (L : List (List UInt8)) (n : Nat) : List (List UInt8) := mkL L.length (fun i => [co (ro L i) n])
theorem oneL_length (L : List (List UInt8)) (n : Nat) : (oneL L n).length = L.length := mkL_length _ _
theorem oneL_row {L : List (List UInt8)} {n i : Nat} (h : i < L.length) : ro (oneL L n) i = [co (ro L i) n] := ro_mkL h
theorem oneL_even (L : List (List UInt8)) (n : Nat) : Even (oneL L n) := fun i hi => by
  rw [oneL_length] at hi
  rw [oneL_row hi, oneL_row (by omega)]; rfl
theorem oneL_small {L : List (List UInt8)} {n : Nat} (hS : Small L) : Small (oneL L n) := ⟨by rw [oneL_length]; exact hS.1, fun i => by
  by_cases e : i < L.length
  · rw [oneL_row e]; simp
  · rw [ro_ge (by rw [oneL_length]; omega)]; simp⟩
theorem place_enc {m k n i : Nat} {F : Mx} {L : List (List UInt8)} (hL : L.length = k) (h0 : 0 < k) (hE : Even L) (hn : n < (ro L 0).length) (hi : i < k + m) :
    ro (encL m k F (oneL L n)) i = [co (ro (encL m k F L) i) n] := by
  by_cases e : i < k
  · rw [enc_row_lt (by rw [oneL_length]; omega), enc_row_lt (by omega), oneL_row (by omega)]
  · rw [enc_row_ge' (by rw [oneL_length]; omega) (by rw [oneL_length]; omega), enc_row_ge' (by omega) (by omega), oneL_length]
    unfold parR
    rw [co_upto_in hn, oneL_row (by omega)]
    show [wd F (oneL L n) (i - L.length) k 0] = [wd F L (i - L.length) k n]
    congr 1
    exact S_congr fun l hl => by rw [oneL_row (by omega)]; rfl

/-- times a number -/
def timesL (L : List (List UInt8)) (c : UInt8) : List (List UInt8) := mkL L.length (fun i => upto (fun n => mu (co (ro L i) n) c) (ro L i).length)
theorem timesL_length (L : List (List UInt8)) (c : UInt8) : (timesL L c).length = L.length := mkL_length _ _
theorem timesL_row {L : List (List UInt8)} {c : UInt8} {i : Nat} (h : i < L.length) : (ro (timesL L c) i).length = (ro L i).length := by unfold timesL; rw [ro_mkL h, upto_length]
theorem timesL_co {L : List (List UInt8)} {c : UInt8} {i n : Nat} (h : i < L.length) (hn : n < (ro L i).length) : co (ro (timesL L c) i) n = mu (co (ro L i) n) c := by
  unfold timesL; rw [ro_mkL h, co_upto_in hn]
theorem timesL_even {L : List (List UInt8)} {c : UInt8} : Even (timesL L c) ↔ Even L := by
  constructor
  · intro h i hi
    have := h i (by rw [timesL_length]; exact hi)
    rwa [timesL_row hi, timesL_row (by omega)] at this
  · intro h i hi
    rw [timesL_length] at hi
    rw [timesL_row hi, timesL_row (by omega)]; exact h i hi
theorem timesL_small {L : List (List UInt8)} {c : UInt8} (hS : Small L) : Small (timesL L c) := ⟨by rw [timesL_length]; exact hS.1, fun i => by
  by_cases e : i < L.length
  · rw [timesL_row e]; exact hS.2 i
  · rw [ro_ge (by rw [timesL_length]; omega)]; simp⟩
theorem times_encX (k m : Int) (L : List (List UInt8)) (c : UInt8) : encX k m (timesL L c) = encX k m L := by
  unfold encX
  by_cases h : OkC k m
  · rw [if_pos h, if_pos h]
    by_cases h2 : (L.length : Int) = k ∧ Even L
    · rw [if_pos h2, if_pos ⟨by rw [timesL_length]; exact h2.1, timesL_even.2 h2.2⟩]
    · rw [if_neg h2, if_neg (fun e => h2 ⟨by have := e.1; rwa [timesL_length] at this, timesL_even.1 e.2⟩)]
  · rw [if_neg h, if_neg h]
theorem times_enc {m k : Nat} {F : Mx} {L : List (List UInt8)} (c : UInt8) (hL : L.length = k) (h0 : 0 < k) (hE : Even L) : encL m k F (timesL L c) = timesL (encL m k F L) c := by
  have hEn : Even (timesL L c) := timesL_even.2 hE
  refine L_ext (by rw [encL_length, timesL_length, timesL_length, encL_length]) (fun i hi => ?_) fun i n hi hn => ?_
  · rw [encL_length, timesL_length] at hi
    rw [enc_len hEn (by rw [timesL_length]; exact hi), timesL_row (by omega), timesL_row (by rw [encL_length]; exact hi), enc_len hE hi]
  · rw [encL_length, timesL_length] at hi
    rw [enc_len hEn (by rw [timesL_length]; exact hi), timesL_row (by omega)] at hn
    rw [timesL_co (by rw [encL_length]; exact hi) (by rw [enc_len hE hi]; exact hn)]
    by_cases e : i < L.length
    · rw [enc_row_lt (by rw [timesL_length]; exact e), enc_row_lt e, timesL_co e (by rw [hE i e]; exact hn)]
    · rw [enc_row_ge' (by rw [timesL_length]; omega) (by rw [timesL_length]; exact hi), enc_row_ge' (by omega) hi, timesL_length, hL]
      unfold parR
      rw [co_upto_in (by rw [timesL_row (by omega)]; exact hn), co_upto_in hn]
      unfold wd
      rw [S_mu]
      exact S_congr fun l hl => by rw [timesL_co (by omega) (by rw [hE l (by omega)]; exact hn), mu_assoc]

/-- where encoding answers no error -/
theorem enc_zero {k m : Int} {L : List (List UInt8)} (h : encX k m L = 0) : ∃ k' m' : Nat, k = (k' : Int) ∧ m = (m' : Int) ∧ 1 ≤ k' ∧ k' + m' ≤ 256 ∧ L.length = k' ∧ Even L ∧ encR k m L = encL m' k' (parF k') L := by
  rcases enc_cases k m L with c | ⟨c, d⟩ | ⟨c, d1, d2⟩
  · rw [(encX_bad c).1] at h; cases h
  · rw [(encX_shard c d).1] at h; cases h
  · obtain ⟨k', m', rfl, rfl, h1, h2⟩ := c.nat
    exact ⟨k', m', rfl, rfl, h1, h2, by omega, d2, (encX_ok c d1 d2).2⟩
theorem enc_not {k m : Int} {L : List (List UInt8)} (h : encX k m L ≠ 0) : encR k m L = [] := by
  rcases enc_cases k m L with c | ⟨c, d⟩ | ⟨c, d1, d2⟩
  · exact (encX_bad c).2
  · exact (encX_shard c d).2
  · obtain ⟨k', m', rfl, rfl, h1, h2⟩ := c.nat
    exact absurd (encX_ok c d1 d2).1 h

end Go.Proofs.Ytehphjapahdalab.Gf
