/- TEXTS JOINED: ArCnt. -/
import Derived.Test.YtpijncnpicgjeaaTome2
/-
  PLAIN MATHEMATICS: an array of three disks behind so many writes, a crash to come behind some of them: 'cS wt d k'. No program's function is named here.
-/

namespace Go.Proofs.Ytpijncnpicgjeaa.Gf
set_option linter.unusedVariables false
set_option linter.unusedSimpArgs false
open Go.RowKit

/-- the first m sectors -/
def fsF (m : Nat) : Int → Option (List UInt8) := fun x => if 0 ≤ x ∧ x < (m : Int) then some [1] else none
def dmS (m : Nat) : DkS := ⟨100, noneI, fsF m, false⟩
theorem fsF_zero : fsF 0 = noneI := by
  funext x
  unfold fsF noneI
  rw [if_neg (by omega)]
theorem fsF_succ (m : Nat) : putB (fsF m) (m : Int) [1] = fsF (m + 1) := by
  funext x
  show (if x = (m : Int) then some [1] else if 0 ≤ x ∧ x < (m : Int) then some [1] else none) = if 0 ≤ x ∧ x < ((m + 1 : Nat) : Int) then some [1] else none
  by_cases e : x = (m : Int)
  · rw [if_pos e, if_pos (by omega)]
  · rw [if_neg e]
    by_cases e2 : 0 ≤ x ∧ x < (m : Int)
    · rw [if_pos e2, if_pos (by omega)]
    · rw [if_neg e2, if_neg (by omega)]
theorem held_fs (m s : Nat) : (heldL (fsF m) s).length = min s m := by
  induction s with
  | zero => simp [heldL]
  | succ s ih =>
    unfold heldL at ih ⊢
    rw [List.range_succ, List.filterMap_append, List.length_append, ih]
    by_cases e : s < m
    · have : fsF m (s : Int) = some [1] := if_pos (by omega)
      simp [this]
      omega
    · have : fsF m (s : Int) = none := if_neg (by omega)
      simp [this]
      omega
def cS (wt d k : Nat) : ArS := ⟨(List.replicate 3 (newD 100)).set d (dmS (min k wt)), List.replicate 3 0, (wt : Int) - (min k wt : Nat), decide (wt ≤ k)⟩
section
variable {wt d k : Nat}
theorem dm_zero : dmS 0 = newD 100 := by unfold dmS newD; rw [fsF_zero]
theorem cS_zero (hd : d < 3) : caA (newA 3 100) (wt : Int) = cS wt d 0 := by
  unfold caA cS newA
  rw [if_neg (by simp)]
  have e1 : (List.replicate 3 (newD 100)).set d (dmS (min 0 wt)) = List.replicate 3 (newD 100) := by
    rw [Nat.zero_min, dm_zero]
    match d, hd with
    | 0, _ => rfl
    | 1, _ => rfl
    | 2, _ => rfl
  rw [e1, if_pos (by omega)]
  congr 1
  rw [decide_eq_decide]; omega
theorem cS_len : (cS wt d k).D.length = 3 := by simp [cS]
theorem cS_off : (cS wt d k).off = decide (wt ≤ k) := rfl
theorem cS_at (hd : d < 3) : diA (cS wt d k) (d : Int) = dmS (min k wt) := by simp [diA, cS, List.getD, hd]
theorem cS_th (hd : d < 3) : thA (cS wt d k) (d : Int) := ⟨by omega, by rw [cS_len]; omega⟩
theorem dm_fa {m : Nat} {x : Int} (h0 : 0 ≤ x) (h1 : x < 100) : faX (dmS m) x = 0 := faX_ok rfl ⟨h0, h1⟩
theorem dm_wr {m : Nat} (h : m < 100) : wrX (dmS m) (m : Int) [1] = 0 ∧ wrS (dmS m) (m : Int) [1] = dmS (m + 1) := by
  have h1 : faX (dmS m) (m : Int) = 0 := dm_fa (by omega) (by omega)
  have h2 : OkB [1] := by decide
  refine ⟨?_, ?_⟩
  · unfold wrX; rw [if_pos h1, if_pos h2]
  · unfold wrS
    rw [if_pos ⟨h1, h2⟩]
    show (⟨100, noneI, putB (fsF m) (m : Int) [1], false⟩ : DkS) = ⟨100, noneI, fsF (m + 1), false⟩
    rw [fsF_succ]
theorem cS_x (hd : d < 3) (hk : k < 100) : wrAX (cS wt d k) (d : Int) (k : Int) [1] = if k < wt then 0 else 130 := by
  unfold wrAX
  by_cases e : k < wt
  · rw [if_neg (by rw [cS_off]; simp; omega), if_pos (cS_th hd), cS_at hd, if_pos e, show min k wt = k by omega]
    exact (dm_wr hk).1
  · rw [if_pos (by rw [cS_off]; simp; omega), if_neg e]
theorem cS_s (hd : d < 3) (hk : k < 100) : wrAS (cS wt d k) (d : Int) (k : Int) [1] = cS wt d (k + 1) := by
  unfold wrAS
  by_cases e : k < wt
  · have em : min k wt = k := by omega
    have em2 : min (k + 1) wt = k + 1 := by omega
    rw [if_neg (by rw [cS_off]; simp; omega), if_pos (cS_th hd), cS_at hd, em, if_pos (dm_wr hk).1, (dm_wr hk).2]
    unfold tickA
    have hl : (setA (cS wt d k) (d : Int) (dmS (k + 1))).left = (wt : Int) - (k : Int) := by
      show (wt : Int) - (min k wt : Nat) = _
      rw [em]
    rw [hl, if_pos (by omega)]
    unfold setA cS
    rw [em2]
    simp only [Int.toNat_natCast, List.set_set]
    congr 1
    · omega
    · rw [decide_eq_decide]; omega
  · rw [if_pos (by rw [cS_off]; simp; omega)]
    unfold cS
    rw [show min (k + 1) wt = min k wt by omega]
    congr 1
    rw [decide_eq_decide]; omega
theorem cS_r (hd : d < 3) : rdAX (cS wt d k) (d : Int) 0 = if wt ≤ k then 130 else 0 := by
  unfold rdAX
  by_cases e : wt ≤ k
  · rw [if_pos (by rw [cS_off]; simp; omega), if_pos e]
  · rw [if_neg (by rw [cS_off]; simp; omega), if_pos (cS_th hd), cS_at hd, if_neg e]
    exact dm_fa (by omega) (by omega)
theorem cS_f : flAX (cS wt d k) = if wt ≤ k then 130 else 0 := by
  unfold flAX
  by_cases e : wt ≤ k
  · rw [if_pos (by rw [cS_off]; simp; omega), if_pos e]
  · rw [if_neg (by rw [cS_off]; simp; omega), if_neg e]
/-- what is there behind the flush -/
theorem cS_held (hd : d < 3) : (heldL ((flAS (cS wt d k)).D.getD d default).wait ((flAS (cS wt d k)).D.getD d default).s).length + (heldL ((flAS (cS wt d k)).D.getD d default).last ((flAS (cS wt d k)).D.getD d default).s).length = min 100 (min k wt) ∧ (flAS (cS wt d k)).D.length = 3 ∧ ((flAS (cS wt d k)).D.getD d default).s = 100 ∧ ((flAS (cS wt d k)).D.getD d default).dead = false := by
  have h0 : (cS wt d k).D.getD d default = dmS (min k wt) := cS_at hd
  unfold flAS
  by_cases e : wt ≤ k
  · rw [if_pos (by rw [cS_off]; simp; omega), h0]
    refine ⟨?_, cS_len, rfl, rfl⟩
    show (heldL (fsF (min k wt)) 100).length + (heldL noneI 100).length = _
    rw [held_fs, heldL_none]
    simp
  · rw [if_neg (by rw [cS_off]; simp; omega)]
    have h1 : ((cS wt d k).D.map flS).getD d default = flS (dmS (min k wt)) := by
      rw [← h0]
      have hl : d < (cS wt d k).D.length := by rw [cS_len]; exact hd
      simp [List.getD, hl]
    show (heldL (((cS wt d k).D.map flS).getD d default).wait (((cS wt d k).D.map flS).getD d default).s).length + (heldL (((cS wt d k).D.map flS).getD d default).last (((cS wt d k).D.map flS).getD d default).s).length = _ ∧ ((cS wt d k).D.map flS).length = 3 ∧ (((cS wt d k).D.map flS).getD d default).s = 100 ∧ (((cS wt d k).D.map flS).getD d default).dead = false
    rw [h1]
    have h2 : flS (dmS (min k wt)) = ⟨100, fsF (min k wt), noneI, false⟩ := by
      unfold flS
      rw [if_neg (by simp [dmS])]
      have : overB (fsF (min k wt)) noneI = fsF (min k wt) := by
        funext x
        unfold overB
        cases hx : fsF (min k wt) x <;> rfl
      show (⟨100, overB (fsF (min k wt)) noneI, noneI, false⟩ : DkS) = _
      rw [this]
    rw [h2]
    refine ⟨?_, by rw [List.length_map, cS_len], rfl, rfl⟩
    show (heldL noneI 100).length + (heldL (fsF (min k wt)) 100).length = _
    rw [held_fs, heldL_none]
    simp
theorem re_readA {a : ArS} {d : Nat} (hl : a.D.length = 3) (hd : d < 3) (hs : (a.D.getD d default).s = 100) (hx : (a.D.getD d default).dead = false) : rdAX (reAS a []) (d : Int) 0 = 0 := by
  unfold rdAX
  have hl2 : (reAS a []).D.length = 3 := by simp [reAS, hl]
  rw [if_neg (by simp [reAS]), if_pos ⟨by omega, by rw [hl2]; omega⟩]
  have h1 : diA (reAS a []) (d : Int) = crS (a.D.getD d default) [] := by
    have : d < a.D.length := by omega
    simp [diA, reAS, List.getD, this]
  rw [h1]
  exact faX_ok (by show (a.D.getD d default).dead = false; exact hx) ⟨by omega, by show (0 : Int) < ((a.D.getD d default).s : Int); rw [hs]; decide⟩
end
end Go.Proofs.Ytpijncnpicgjeaa.Gf

