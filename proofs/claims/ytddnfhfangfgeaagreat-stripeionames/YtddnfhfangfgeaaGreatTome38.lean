/- TEXTS JOINED: StWr, StHurt. -/
import Derived.Test.YtddnfhfangfgeaaGreatChecked
import GoSem.Claim
import GoSem.ClaimJoined
import GoSem.ClaimMapViews
import Derived.JoinedTies
import Derived.KernelRfl
import Derived.WalkKit
import Derived.Deep.QuietTactic
import Derived.BigQuiet
import Derived.WalkLawsBesides
import Derived.WalkSpells
import Derived.OpenShut
import Derived.Deep.AppendLies
import Derived.Laws.CopyOwn
import Derived.Laws.AppendOwnNone
import Derived.Deep.RegionHeld3
import Derived.WalkMore
import Derived.Deep.RegionLaw
import Derived.Deep.RegionWith
import Derived.Deep.OwnRows
import Derived.Deep.CutRange
import Derived.Deep.Slices
import Derived.Lib.SmallJoins
import Derived.Below
import Derived.Test.YtddnfhfangfgeaaGreatRows
import Derived.Test.YtddnfhfangfgeaaGreatTome36
import Derived.Test.YtddnfhfangfgeaaGreatTome10
import Derived.Test.YtddnfhfangfgeaaGreatTome20
import Derived.Test.YtddnfhfangfgeaaGreatTome27
import Derived.Test.YtddnfhfangfgeaaGreatTome31
import Derived.Test.YtddnfhfangfgeaaGreatTome34
import Derived.Test.YtddnfhfangfgeaaGreatTome37
import Derived.Test.YtddnfhfangfgeaaGreatTome2
import Derived.Test.YtddnfhfangfgeaaGreatTome21
namespace Go.Proofs.YtddnfhfangfgeaaGreat.Gf
set_option linter.unusedVariables false
set_option linter.unusedSimpArgs false
/-- the power is there, and no crash is to come -/
def Calm (a : ArS) : Prop := a.off = false ∧ ¬ 0 < a.left
theorem calm_new (n s : Nat) : Calm (newA n s) := ⟨rfl, by show ¬ (0 : Int) < -1; omega⟩
section
variable {a : ArS} {i ad : Int} {b : List UInt8}
theorem setA_len (d : DkS) : (setA a i d).D.length = a.D.length := by simp [setA]
theorem diA_set (hi : thA a i) (d : DkS) {j : Int} (hj : 0 ≤ j) : diA (setA a i d) j = if j = i then d else diA a j := by
  have hl : i.toNat < a.D.length := by have := hi.1; have := hi.2; omega
  unfold diA setA
  show (a.D.set i.toNat d).getD j.toNat default = _
  by_cases e : j = i
  · rw [if_pos e, e]
    simp [List.getD, hl]
  · rw [if_neg e]
    have hn : i.toNat ≠ j.toNat := by have := hi.1; omega
    simp [List.getD, List.getElem?_set, hn]
theorem wr_set (hc : Calm a) (ht : thA a i) (h : wrX (diA a i) ad b = 0) : wrAX a i ad b = 0 ∧ wrAS a i ad b = setA a i (wrS (diA a i) ad b) := by
  refine ⟨?_, ?_⟩
  · unfold wrAX
    rw [if_neg (by rw [hc.1]; decide), if_pos ht, h]
  · unfold wrAS tickA
    rw [if_neg (by rw [hc.1]; decide), if_pos ht, if_pos h]
    exact if_neg hc.2
theorem rd_at (ho : a.off = false) (ht : thA a i) : rdAB a i ad = rdB (diA a i) ad := by
  unfold rdAB
  rw [if_neg (by rw [ho]; decide), if_pos ht]
theorem wrX_ok {d : DkS} (hd : d.dead = false) (h0 : 0 ≤ ad) (h1 : ad < (d.s : Int)) (hb : OkB b) : wrX d ad b = 0 := by
  unfold wrX
  rw [if_pos (faX_ok hd ⟨h0, h1⟩), if_pos hb]
theorem wrS_at {d : DkS} (hd : d.dead = false) (h0 : 0 ≤ ad) (h1 : ad < (d.s : Int)) (hb : OkB b) : wrS d ad b = { d with wait := putB d.wait ad b } := if_pos ⟨faX_ok hd ⟨h0, h1⟩, hb⟩
theorem rdB_wr {d : DkS} (hd : d.dead = false) (h0 : 0 ≤ ad) (h1 : ad < (d.s : Int)) (hb : OkB b) (x : Int) : rdB (wrS d ad b) x = if x = ad then b else rdB d x := by
  rw [wrS_at hd h0 h1 hb]
  by_cases e : x = ad
  · rw [if_pos e, e]
    unfold rdB
    have e1 : faX ({ d with wait := putB d.wait ad b } : DkS) ad = 0 := faX_ok (d := { d with wait := putB d.wait ad b }) hd ⟨h0, h1⟩
    rw [if_pos e1]
    simp [atD, putB]
  · rw [if_neg e]
    have e1 : faX ({ d with wait := putB d.wait ad b } : DkS) x = faX d x := rfl
    have e2 : atD ({ d with wait := putB d.wait ad b } : DkS) x = atD d x := by simp [atD, putB, e]
    unfold rdB
    rw [e1, e2]
theorem wrS_dead {d : DkS} : (wrS d ad b).dead = d.dead := by unfold wrS; split <;> rfl
end
section
variable {a : ArS} {g : GeoS} {st ep : Int}
theorem diG_in (h : okG g) (h1 : 0 ≤ st) (h2 : st < g.s) {i : Nat} (hi : i < nT g) : 0 ≤ diG g st (i : Int) ∧ diG g st (i : Int) < ((nT g : Nat) : Int) := by
  have z := okG_nat h
  have := sh_di h h1 h2 (sh := (i : Int)) (by omega) (by omega)
  exact ⟨this.1, by have := this.2.1; omega⟩
theorem diG_inj (h : okG g) (h1 : 0 ≤ st) (h2 : st < g.s) {i j : Nat} (hi : i < nT g) (hj : j < nT g) (e : diG g st (i : Int) = diG g st (j : Int)) : i = j := by
  have z := okG_nat h
  have := di_inj h h1 h2 (i := (i : Int)) (j := (j : Int)) (by omega) (by omega) (by omega) (by omega) e
  omega
/-- the shard that lies on a disk -/
theorem diG_of (h : okG g) (h1 : 0 ≤ st) (h2 : st < g.s) {d : Int} (h3 : 0 ≤ d) (h4 : d < ((nT g : Nat) : Int)) : ∃ i : Nat, i < nT g ∧ diG g st (i : Int) = d := by
  have z := okG_nat h
  obtain ⟨q1, q2, q3⟩ := di_sh h h1 h2 h3 (by omega)
  exact ⟨(shG g st d).toNat, by omega, by rw [show (((shG g st d).toNat : Nat) : Int) = shG g st d by omega]; exact q3⟩
/-- may a shard be written? -/
structure WrT (a : ArS) (g : GeoS) (st : Int) (i : Nat) : Prop where
  th : thA a (diG g st (i : Int))
  al : (diA a (diG g st (i : Int))).dead = false
  rm : stG g st < ((diA a (diG g st (i : Int))).s : Int)
theorem pkT_okB {b : List UInt8} (hb : b.length ≤ 4096) : OkB (pkT g st ep b) := by
  unfold OkB pkT
  rw [pk_length]
  omega
theorem put_ok (hT : OkT g st ep) (hc : Calm a) {i : Nat} (hw : WrT a g st i) {b : List UInt8} (hb : b.length ≤ 4096) : puX a g st ep i b = 0 ∧ puS a g st ep i b = setA a (diG g st (i : Int)) (wrS (diA a (diG g st (i : Int))) (stG g st) (pkT g st ep b)) := by
  have s := stG_in hT.1 hT.2.1 hT.2.2.1
  exact wr_set hc hw.th (wrX_ok hw.al s.2.1 hw.rm (pkT_okB hb))
/-- shards that were written, and what was not -/
structure PutT (a a' : ArS) (g : GeoS) (st ep : Int) (R : List (List UInt8)) (B : List Nat) : Prop where
  calm : Calm a'
  len : a'.D.length = a.D.length
  at_ : ∀ i, i ∈ B → diA a' (diG g st (i : Int)) = wrS (diA a (diG g st (i : Int))) (stG g st) (pkT g st ep (ro R i))
  else_ : ∀ d, 0 ≤ d → (∀ i, i ∈ B → diG g st (i : Int) ≠ d) → diA a' d = diA a d
theorem take_getD {B : List Nat} {r : Nat} (h : r < B.length) : B.take (r + 1) = B.take r ++ [B.getD r 0] := by
  rw [List.take_add_one]
  simp [List.getD, h]
theorem not_take {B : List Nat} (hn : B.Nodup) {r : Nat} (h : r < B.length) : B.getD r 0 ∉ B.take r := by
  intro e
  rw [List.mem_take_iff_getElem] at e
  obtain ⟨j, hj, e2⟩ := e
  rw [show B.getD r 0 = B[r] by simp [List.getD, h]] at e2
  have := (List.getElem_inj hn).1 e2
  omega
theorem ps_put (hT : OkT g st ep) (hc : Calm a) {R : List (List UInt8)} {B : List Nat} (hn : B.Nodup) (hB : ∀ i, i ∈ B → i < nT g ∧ WrT a g st i) (hR : ∀ i, i ∈ B → (ro R i).length ≤ 4096) :
    ∀ r, r ≤ B.length → PutT a (psT a g st ep R B r) g st ep R (B.take r) ∧ pnT a g st ep R B r = r ∧ (r < B.length → puX (psT a g st ep R B r) g st ep (B.getD r 0) (ro R (B.getD r 0)) = 0)
  | 0, h => by
    have p0 : PutT a (psT a g st ep R B 0) g st ep R (B.take 0) := ⟨hc, rfl, fun i hi => by simp at hi, fun d _ _ => rfl⟩
    refine ⟨p0, rfl, fun h0 => ?_⟩
    have hm : B.getD 0 0 ∈ B := getD_mem h0
    exact (put_ok hT hc (hB _ hm).2 (hR _ hm)).1
  | r + 1, h => by
    obtain ⟨P, n1, ok1⟩ := ps_put hT hc hn hB hR r (by omega)
    have hr : r < B.length := by omega
    have hm : B.getD r 0 ∈ B := getD_mem hr
    obtain ⟨hlt, hw⟩ := hB _ hm
    have apart : ∀ i, i ∈ B.take r → diG g st (i : Int) ≠ diG g st ((B.getD r 0 : Nat) : Int) := fun i hi e => by
      have := diG_inj hT.1 hT.2.1 hT.2.2.1 (hB i (List.mem_of_mem_take hi)).1 hlt e
      rw [this] at hi
      exact not_take hn hr hi
    have din := diG_in hT.1 hT.2.1 hT.2.2.1 hlt
    have e0 : diA (psT a g st ep R B r) (diG g st ((B.getD r 0 : Nat) : Int)) = diA a (diG g st ((B.getD r 0 : Nat) : Int)) := P.else_ _ din.1 apart
    have hw' : WrT (psT a g st ep R B r) g st (B.getD r 0) := ⟨⟨hw.th.1, by rw [P.len]; exact hw.th.2⟩, by rw [e0]; exact hw.al, by rw [e0]; exact hw.rm⟩
    obtain ⟨x0, s0⟩ := put_ok hT P.calm hw' (hR _ hm)
    have s1 : psT a g st ep R B (r + 1) = setA (psT a g st ep R B r) (diG g st ((B.getD r 0 : Nat) : Int)) (wrS (diA a (diG g st ((B.getD r 0 : Nat) : Int))) (stG g st) (pkT g st ep (ro R (B.getD r 0)))) := by
      show puS _ _ _ _ _ _ = _
      rw [s0, e0]
    have P' : PutT a (psT a g st ep R B (r + 1)) g st ep R (B.take (r + 1)) := by
      refine ⟨?_, ?_, fun i hi => ?_, fun d hd hne => ?_⟩
      · rw [s1]; exact P.calm
      · rw [s1, setA_len]; exact P.len
      · rw [take_getD hr, List.mem_append, List.mem_singleton] at hi
        rw [s1]
        rcases hi with hi | hi
        · have hi2 := diG_in hT.1 hT.2.1 hT.2.2.1 (hB i (List.mem_of_mem_take hi)).1
          rw [diA_set hw'.th _ hi2.1, if_neg (apart i hi)]
          exact P.at_ i hi
        · rw [hi, diA_set hw'.th _ din.1, if_pos rfl]
      · rw [s1, diA_set hw'.th _ hd, if_neg (fun e => hne (B.getD r 0) (by rw [take_getD hr]; simp) e.symm)]
        exact P.else_ d hd fun i hi => hne i (by rw [take_getD hr]; exact List.mem_append_left _ hi)
    refine ⟨P', ?_, fun h2 => ?_⟩
    · show pnT a g st ep R B r + _ = r + 1
      rw [n1, if_pos x0]
    · have hm2 : B.getD (r + 1) 0 ∈ B := getD_mem h2
      obtain ⟨hlt2, hw2⟩ := hB _ hm2
      have din2 := diG_in hT.1 hT.2.1 hT.2.2.1 hlt2
      have e2 : diA (psT a g st ep R B (r + 1)) (diG g st ((B.getD (r + 1) 0 : Nat) : Int)) = diA a (diG g st ((B.getD (r + 1) 0 : Nat) : Int)) := P'.else_ _ din2.1 fun i hi e => by
        have := diG_inj hT.1 hT.2.1 hT.2.2.1 (hB i (List.mem_of_mem_take hi)).1 hlt2 e
        rw [this] at hi
        exact not_take hn h2 hi
      exact (put_ok hT P'.calm ⟨⟨hw2.th.1, by rw [P'.len]; exact hw2.th.2⟩, by rw [e2]; exact hw2.al, by rw [e2]; exact hw2.rm⟩ (hR _ hm2)).1
/-- all of a list were written -/
theorem ps_all (hT : OkT g st ep) (hc : Calm a) {R : List (List UInt8)} {B : List Nat} (hn : B.Nodup) (hB : ∀ i, i ∈ B → i < nT g ∧ WrT a g st i) (hR : ∀ i, i ∈ B → (ro R i).length ≤ 4096) :
    PutT a (psT a g st ep R B B.length) g st ep R B ∧ pnT a g st ep R B B.length = B.length ∧ pcT a g st ep R B = false := by
  obtain ⟨P, n1, _⟩ := ps_put hT hc hn hB hR B.length (Nat.le_refl _)
  rw [List.take_length] at P
  exact ⟨P, n1, pc_end fun i hi => (ps_put hT hc hn hB hR i (by omega)).1.calm.1⟩
theorem PutT.rb (hT : OkT g st ep) {a' : ArS} {R : List (List UInt8)} {B : List Nat} (hB : ∀ i, i ∈ B → i < nT g ∧ WrT a g st i) (hR : ∀ i, i ∈ B → (ro R i).length ≤ 4096) (P : PutT a a' g st ep R B) :
    (∀ i, i ∈ B → rbT a' g st i = pkT g st ep (ro R i)) := fun i hi => by
  obtain ⟨hlt, hw⟩ := hB i hi
  have s := stG_in hT.1 hT.2.1 hT.2.2.1
  unfold rbT
  rw [rd_at P.calm.1 ⟨hw.th.1, by rw [P.len]; exact hw.th.2⟩, P.at_ i hi, rdB_wr hw.al s.2.1 hw.rm (pkT_okB (hR i hi)), if_pos rfl]
theorem rdAB_off {a : ArS} {i ad : Int} (h : ¬ thA a i) : rdAB a i ad = [] := by
  unfold rdAB
  rw [if_neg h]
  split <;> rfl
theorem PutT.rb_else (hT : OkT g st ep) (hc : Calm a) {a' : ArS} {R : List (List UInt8)} {B : List Nat} (hB : ∀ i, i ∈ B → i < nT g ∧ WrT a g st i) (P : PutT a a' g st ep R B) {i : Nat} (hi : i < nT g) (hne : i ∉ B) : rbT a' g st i = rbT a g st i := by
  have din := diG_in hT.1 hT.2.1 hT.2.2.1 hi
  have e : diA a' (diG g st (i : Int)) = diA a (diG g st (i : Int)) := P.else_ _ din.1 fun j hj e => hne (by
    rw [← diG_inj hT.1 hT.2.1 hT.2.2.1 (hB j hj).1 hi e]; exact hj)
  unfold rbT
  by_cases ht : thA a (diG g st (i : Int))
  · rw [rd_at P.calm.1 ⟨ht.1, by rw [P.len]; exact ht.2⟩, rd_at hc.1 ht, e]
  · rw [rdAB_off ht, rdAB_off (fun q => ht ⟨q.1, by rw [← P.len]; exact q.2⟩)]
/-- another stripe is left -/
theorem PutT.rb_other (hT : OkT g st ep) (hc : Calm a) {a' : ArS} {R : List (List UInt8)} {B : List Nat} (hB : ∀ i, i ∈ B → i < nT g ∧ WrT a g st i) (hR : ∀ i, i ∈ B → (ro R i).length ≤ 4096) (P : PutT a a' g st ep R B) {st' : Int} (h1 : 0 ≤ st') (h2 : st' < g.s) (hs : st' ≠ st) {i : Nat} (hi : i < nT g) : rbT a' g st' i = rbT a g st' i := by
  have s := stG_in hT.1 hT.2.1 hT.2.2.1
  have s' := stG_in hT.1 h1 h2
  have din := diG_in hT.1 h1 h2 hi
  unfold rbT
  by_cases ht : thA a (diG g st' (i : Int))
  · rw [rd_at P.calm.1 ⟨ht.1, by rw [P.len]; exact ht.2⟩, rd_at hc.1 ht]
    by_cases q : ∃ j, j ∈ B ∧ diG g st (j : Int) = diG g st' (i : Int)
    · obtain ⟨j, hj, e⟩ := q
      obtain ⟨hlt, hw⟩ := hB j hj
      rw [← e, P.at_ j hj, rdB_wr hw.al s.2.1 hw.rm (pkT_okB (hR j hj)), if_neg (by rw [s.1, s'.1]; omega)]
    · rw [P.else_ _ din.1 fun j hj e => q ⟨j, hj, e⟩]
  · rw [rdAB_off ht, rdAB_off (fun q => ht ⟨q.1, by rw [← P.len]; exact q.2⟩)]
theorem PutT.keeps {a' : ArS} {R : List (List UInt8)} {B : List Nat} (P : PutT a a' g st ep R B) {d : Int} (hd : 0 ≤ d) : (diA a' d).dead = (diA a d).dead ∧ (diA a' d).s = (diA a d).s := by
  by_cases q : ∃ j, j ∈ B ∧ diG g st (j : Int) = d
  · obtain ⟨j, hj, e⟩ := q
    rw [← e, P.at_ j hj]
    exact ⟨wrS_dead, wrS_s _ _ _⟩
  · rw [P.else_ _ hd fun j hj e => q ⟨j, hj, e⟩]
    exact ⟨rfl, rfl⟩
end
end Go.Proofs.YtddnfhfangfgeaaGreat.Gf

namespace Go.Proofs.YtddnfhfangfgeaaGreat.Gf
set_option linter.unusedVariables false
set_option linter.unusedSimpArgs false
theorem cnt_or_eq (p q : Nat → Bool) (n : Nat) (h : ∀ i, i < n → p i = true → q i = false) : cnt (fun i => p i || q i) n = cnt p n + cnt q n := by
  induction n with
  | zero => rfl
  | succ n ih =>
    show cnt (fun i => p i || q i) n + (if (p n || q n) then 1 else 0) = cnt p n + (if p n then 1 else 0) + (cnt q n + (if q n then 1 else 0))
    rw [ih fun i hi => h i (by omega)]
    cases e : p n
    · simp; omega
    · rw [h n (by omega) e]; simp; omega
theorem cnt_one15 {n i0 : Nat} (h : i0 < n) : cnt (fun i => decide (i = i0)) n = 1 := by
  induction n with
  | zero => omega
  | succ n ih =>
    show cnt (fun i => decide (i = i0)) n + (if decide (n = i0) then 1 else 0) = 1
    by_cases e : n = i0
    · rw [decide_eq_true e, cnt_none fun i hi => decide_eq_false (by omega)]
      rfl
    · rw [decide_eq_false e, ih (by omega)]
      rfl
section
variable {a : ArS} {g : GeoS} {st ep : Int}
/-- as many shards as disks -/
theorem cnt_disks (hg : okG g) (h1 : 0 ≤ st) (h2 : st < g.s) : ∀ {S : List Int}, S.Nodup → (∀ d, d ∈ S → 0 ≤ d ∧ d < ((nT g : Nat) : Int)) → cnt (fun i => decide (diG g st (i : Int) ∈ S)) (nT g) = S.length
  | [], _, _ => cnt_none fun i _ => decide_eq_false (by simp)
  | d :: S, hn, hS => by
    rw [List.nodup_cons] at hn
    obtain ⟨i0, hi0, e0⟩ := diG_of hg h1 h2 (hS d (by simp)).1 (hS d (by simp)).2
    have ih := cnt_disks hg h1 h2 hn.2 fun x hx => hS x (by simp [hx])
    have e : ∀ i, i < nT g → decide (diG g st (i : Int) ∈ d :: S) = (decide (i = i0) || decide (diG g st (i : Int) ∈ S)) := fun i hi => by
      rw [← Bool.decide_or]
      refine decide_eq_decide.2 ?_
      rw [List.mem_cons]
      refine ⟨fun h => h.imp (fun e => diG_inj hg h1 h2 hi hi0 (e.trans e0.symm)) id, fun h => h.imp (fun e => by rw [e]; exact e0) id⟩
    rw [cnt_congr e, cnt_or_eq _ _ _ (fun i hi h => by
      rw [of_decide_eq_true h]
      exact decide_eq_false (by rw [e0]; exact hn.1)), cnt_one15 hi0, ih, List.length_cons]
    omega
/-- a disk that is hurt: it fails (0), is replaced (1), or has a byte changed -/
def hdD (kind ad at_ : Int) (d : DkS) : DkS := if kind = 0 then faS d else if kind = 1 then reS d else coS d ad at_ 1
def hdA (kind ad at_ : Int) (a : ArS) (d : Int) : ArS := if kind = 0 then faAS a d else if kind = 1 then rpAS a d else coAS a d ad at_ 1
def hrT (kind ad at_ : Int) (a : ArS) (S : List Int) : Nat → ArS
  | 0 => a
  | r + 1 => hdA kind ad at_ (hrT kind ad at_ a S r) (S.getD r 0)
theorem hd_calm {kind ad at_ d : Int} (hc : Calm a) : Calm (hdA kind ad at_ a d) := by
  unfold hdA faAS rpAS coAS
  split
  · split
    · exact hc
    · exact hc
  · split
    · split
      · exact hc
      · exact hc
    · split
      · exact hc
      · exact hc
theorem hd_len {kind ad at_ d : Int} : (hdA kind ad at_ a d).D.length = a.D.length := by
  unfold hdA faAS rpAS coAS
  split
  · split
    · exact setA_len _
    · rfl
  · split
    · split
      · exact setA_len _
      · rfl
    · split
      · exact setA_len _
      · rfl
theorem diA_born {d j : Int} : diA (bornA a d) j = diA a j := rfl
theorem hd_di {kind ad at_ d j : Int} (ht : thA a d) (hj : 0 ≤ j) : diA (hdA kind ad at_ a d) j = if j = d then hdD kind ad at_ (diA a d) else diA a j := by
  unfold hdA faAS rpAS coAS hdD
  by_cases k0 : kind = 0
  · rw [if_pos k0, if_pos ht, if_pos k0, diA_born, diA_set ht _ hj]
  · rw [if_neg k0, if_neg k0]
    by_cases k1 : kind = 1
    · rw [if_pos k1, if_pos ht, if_pos k1, diA_born, diA_set ht _ hj]
    · rw [if_neg k1, if_neg k1, if_pos ht, diA_set ht _ hj]
structure HrtT (kind ad at_ : Int) (a a' : ArS) (S : List Int) : Prop where
  calm : Calm a'
  len : a'.D.length = a.D.length
  at' : ∀ d, d ∈ S → diA a' d = hdD kind ad at_ (diA a d)
  else_ : ∀ d, 0 ≤ d → d ∉ S → diA a' d = diA a d
theorem take_getI {S : List Int} {r : Nat} (h : r < S.length) : S.take (r + 1) = S.take r ++ [S.getD r 0] := by
  rw [List.take_add_one]
  simp [List.getD, h]
theorem not_takeI {S : List Int} (hn : S.Nodup) {r : Nat} (h : r < S.length) : S.getD r 0 ∉ S.take r := by
  intro e
  rw [List.mem_take_iff_getElem] at e
  obtain ⟨j, hj, e2⟩ := e
  rw [show S.getD r 0 = S[r] by simp [List.getD, h]] at e2
  have := (List.getElem_inj hn).1 e2
  omega
theorem getD_memI {S : List Int} {r : Nat} (h : r < S.length) : S.getD r 0 ∈ S := by
  rw [show S.getD r 0 = S[r] by simp [List.getD, h]]
  exact List.getElem_mem h
theorem hr_all {kind ad at_ : Int} (hc : Calm a) {S : List Int} (hn : S.Nodup) (hS : ∀ d, d ∈ S → thA a d) : ∀ r, r ≤ S.length → HrtT kind ad at_ a (hrT kind ad at_ a S r) (S.take r)
  | 0, _ => ⟨hc, rfl, fun d hd => by simp at hd, fun d _ _ => rfl⟩
  | r + 1, h => by
    have P := hr_all (kind := kind) (ad := ad) (at_ := at_) hc hn hS r (by omega)
    have hr : r < S.length := by omega
    have hm := getD_memI hr
    have ht : thA (hrT kind ad at_ a S r) (S.getD r 0) := ⟨(hS _ hm).1, by rw [P.len]; exact (hS _ hm).2⟩
    have hnt := not_takeI hn hr
    refine ⟨hd_calm P.calm, by show (hdA _ _ _ _ _).D.length = _; rw [hd_len]; exact P.len, fun d hd => ?_, fun d hd hne => ?_⟩
    · show diA (hdA _ _ _ _ _) d = _
      rw [take_getI hr, List.mem_append, List.mem_singleton] at hd
      rcases hd with hd | hd
      · rw [hd_di ht (hS d (List.mem_of_mem_take hd)).1, if_neg (fun e => hnt (by rw [← e]; exact hd))]
        exact P.at' d hd
      · rw [hd_di ht (by rw [hd]; exact ht.1), if_pos hd, hd, P.else_ _ ht.1 hnt]
    · show diA (hdA _ _ _ _ _) d = _
      rw [take_getI hr, List.mem_append, List.mem_singleton] at hne
      rw [hd_di ht hd, if_neg (fun e => hne (Or.inr e))]
      exact P.else_ d hd fun e => hne (Or.inl e)
theorem hdD_s {kind ad at_ : Int} {d : DkS} : (hdD kind ad at_ d).s = d.s := by
  unfold hdD
  split
  · rfl
  · split
    · rfl
    · exact coS_s _ _ _ _
theorem coS_dead {d : DkS} {ad at_ : Int} {y : UInt8} : (coS d ad at_ y).dead = d.dead := by
  unfold coS
  split
  · split
    · rfl
    · split <;> rfl
  · rfl
theorem hdD_dead {kind ad at_ : Int} {d : DkS} (hd : d.dead = false) : (hdD kind ad at_ d).dead = decide (kind = 0) := by
  unfold hdD
  by_cases k0 : kind = 0
  · rw [if_pos k0, decide_eq_true k0]; rfl
  · rw [if_neg k0, decide_eq_false k0]
    split
    · rfl
    · rw [coS_dead]; exact hd
theorem rdB_co {d : DkS} {ad at_ : Int} {y : UInt8} {b : List UInt8} (hf : faX d ad = 0) (h : atD d ad = some b) : rdB (coS d ad at_ y) ad = chB b at_ y := by
  have hf' : ∀ e : DkS, e.dead = d.dead → e.s = d.s → faX e ad = 0 := fun e e1 e2 => by
    have := hf
    unfold faX at this ⊢
    rw [e1, e2]
    exact this
  unfold rdB
  rw [if_pos (hf' _ coS_dead (coS_s _ _ _ _))]
  unfold atD at h
  cases e : d.wait ad with
  | some c =>
    rw [e] at h
    have : c = b := by simpa using h
    subst this
    unfold coS
    rw [if_pos hf, e]
    simp [atD, putB]
  | none =>
    rw [e] at h
    have h' : d.last ad = some b := h
    unfold coS
    rw [if_pos hf, e, h']
    simp [atD, putB, e]
theorem rdB_some {d : DkS} {ad : Int} {b : List UInt8} (h : rdB d ad = b) (hb : b ≠ []) : faX d ad = 0 ∧ atD d ad = some b := by
  unfold rdB at h
  by_cases e : faX d ad = 0
  · rw [if_pos e] at h
    refine ⟨e, ?_⟩
    cases q : atD d ad with
    | none => rw [q] at h; exact absurd h.symm hb
    | some c => rw [q] at h; rw [show c = b from h]
  · rw [if_neg e] at h
    exact absurd h.symm hb
theorem up_nil (x : Int) : upX x [] = 110 := (up_not (fun h => by have := h.1; simp at this)).1
/-- a disk that is hurt tells no sector -/
theorem hd_up {kind at_ : Int} (hT : OkT g st ep) {b : List UInt8} (hb : b.length ≤ 4096) {d : DkS} (h : rdB d (stG g st) = pkT g st ep b) : upX (stG g st) (rdB (hdD kind (stG g st) at_ d) (stG g st)) = 110 := by
  have hl : (pkT g st ep b).length = b.length + 12 := pk_length _ _ _
  have hne : pkT g st ep b ≠ [] := fun e => by rw [e] at hl; simp at hl
  obtain ⟨hf, ha⟩ := rdB_some h hne
  unfold hdD
  split
  · have : rdB (faS d) (stG g st) = [] := by
      unfold rdB
      rw [faX_dead rfl, if_neg (by decide)]
    rw [this]; exact up_nil _
  · split
    · have : rdB (reS d) (stG g st) = [] := by
        unfold rdB
        split <;> rfl
      rw [this]; exact up_nil _
    · rw [rdB_co hf ha]
      refine (up_not ?_).1
      unfold chB
      have ht : atN at_ (pkT g st ep b).length < (pkT g st ep b).length := Nat.mod_lt _ (by omega)
      refine pk_tells (hT.se hb) ht ?_
      show co (pkT g st ep b) _ ^^^ 1 ≠ co (pkT g st ep b) _
      intro e
      have e2 := congrArg (fun x => co (pkT g st ep b) (atN at_ (pkT g st ep b).length) ^^^ x) e
      rw [x_cancel, x_self] at e2
      cases e2
theorem hs_no {i : Nat} (h : upX (stG g st) (rbT a g st i) = 110) : hsF a g st ep i = false := decide_eq_false fun q => by
  rw [h] at q
  have := q.1
  cases this
/-- a stripe that is held on disks that are there -/
structure WholeT (a : ArS) (g : GeoS) (st ep : Int) (D : List UInt8) : Prop where
  calm : Calm a
  held : ∀ i, i < nT g → rbT a g st i = pkT g st ep (ro (shT g D) i)
  wr : ∀ i, i < nT g → WrT a g st i
theorem whole_hurt (hT : OkT g st ep) {D : List UInt8} (hD : LenT g D) (h : WholeT a g st ep D) {kind at_ : Int} {S : List Int} (hn : S.Nodup) (hS : ∀ d, d ∈ S → 0 ≤ d ∧ d < ((nT g : Nat) : Int)) :
    HeldT (hrT kind (stG g st) at_ a S S.length) g st ep (shT g D) (fun i => decide (diG g st (i : Int) ∈ S)) ∧ cnt (fun i => decide (diG g st (i : Int) ∈ S)) (nT g) = S.length ∧
    Calm (hrT kind (stG g st) at_ a S S.length) ∧ (∀ i, i < nT g → (kind = 0 → diG g st (i : Int) ∈ S → lvT (hrT kind (stG g st) at_ a S S.length) (diG g st (i : Int)) = false) ∧ ((kind ≠ 0 ∨ diG g st (i : Int) ∉ S) → WrT (hrT kind (stG g st) at_ a S S.length) g st i)) := by
  have z := okG_nat hT.1
  have hth : ∀ d, d ∈ S → thA a d := fun d hd => by
    obtain ⟨i, hi, e⟩ := diG_of hT.1 hT.2.1 hT.2.2.1 (hS d hd).1 (hS d hd).2
    rw [← e]
    exact (h.wr i hi).th
  have P := hr_all (kind := kind) (ad := stG g st) (at_ := at_) h.calm hn hth S.length (Nat.le_refl _)
  rw [List.take_length] at P
  have th' : ∀ i, i < nT g → thA (hrT kind (stG g st) at_ a S S.length) (diG g st (i : Int)) := fun i hi => ⟨(h.wr i hi).th.1, by rw [P.len]; exact (h.wr i hi).th.2⟩
  have hrow : ∀ i, i < nT g → (ro (shT g D) i).length ≤ 4096 := fun i hi => by rw [shT_row hD hT.1 hi]; omega
  have rd0 : ∀ i, i < nT g → rdB (diA a (diG g st (i : Int))) (stG g st) = pkT g st ep (ro (shT g D) i) := fun i hi => by
    rw [← h.held i hi]
    exact (rd_at h.calm.1 (h.wr i hi).th).symm
  refine ⟨⟨fun i hi hu => ?_, fun i hi hu => ?_, P.calm.1⟩, cnt_disks hT.1 hT.2.1 hT.2.2.1 hn hS, P.calm, fun i hi => ⟨fun k0 hm => ?_, fun hk => ?_⟩⟩
  · have hu' := of_decide_eq_false hu
    unfold rbT
    rw [rd_at P.calm.1 (th' i hi), P.else_ _ (h.wr i hi).th.1 hu']
    exact rd0 i hi
  · refine hs_no ?_
    unfold rbT
    rw [rd_at P.calm.1 (th' i hi), P.at' _ (of_decide_eq_true hu)]
    exact hd_up hT (hrow i hi) (rd0 i hi)
  · unfold lvT
    rw [P.at' _ hm, hdD_dead (h.wr i hi).al, decide_eq_true k0]
    simp
  · by_cases hm : diG g st (i : Int) ∈ S
    · have k0 : kind ≠ 0 := hk.resolve_right fun q => q hm
      refine ⟨th' i hi, ?_, ?_⟩
      · rw [P.at' _ hm, hdD_dead (h.wr i hi).al, decide_eq_false k0]
      · rw [P.at' _ hm, hdD_s]; exact (h.wr i hi).rm
    · refine ⟨th' i hi, ?_, ?_⟩
      · rw [P.else_ _ (h.wr i hi).th.1 hm]; exact (h.wr i hi).al
      · rw [P.else_ _ (h.wr i hi).th.1 hm]; exact (h.wr i hi).rm
theorem WrT.lv {i : Nat} (h : WrT a g st i) : lvT a (diG g st (i : Int)) = true := by
  unfold lvT
  rw [decide_eq_true h.th, h.al]
  rfl
/-- what is told of a stripe some of whose disks are hurt, and behind a fix -/
theorem back15 (hT : OkT g st ep) {D : List UInt8} (hD : LenT g D) (h : WholeT a g st ep D) {kind at_ : Int} {S : List Int} (hn : S.Nodup) (hS : ∀ d, d ∈ S → 0 ≤ d ∧ d < ((nT g : Nat) : Int)) {a' : ArS} (ha : a' = hrT kind (stG g st) at_ a S S.length) :
    (g.m.toNat < S.length → rtX a' g st ep = 150 ∧ rtD a' g st ep = [] ∧ rtB a' g st ep = []) ∧
    (S.length ≤ g.m.toNat → rtX a' g st ep = 0 ∧ rtD a' g st ep = D ∧ (rtB a' g st ep).length = (if kind = 0 then 0 else S.length) ∧
      fxX a' g st ep = 0 ∧ fxN a' g st ep = (rtB a' g st ep).length ∧ rtX (fxS a' g st ep) g st ep = 0 ∧ rtD (fxS a' g st ep) g st ep = D ∧ rtB (fxS a' g st ep) g st ep = []) := by
  subst ha
  obtain ⟨H, hc, hcalm, hw⟩ := whole_hurt hT hD h (kind := kind) (at_ := at_) hn hS
  generalize hrT kind (stG g st) at_ a S S.length = a' at H hcalm hw ⊢
  have hrow : ∀ i, i < nT g → (ro (shT g D) i).length ≤ 4096 := fun i hi => by rw [shT_row hD hT.1 hi]; have := okG_nat hT.1; omega
  refine ⟨fun hf => ?_, fun hf => ?_⟩
  · refine read_lost hT H.off (fun i hi e => has_len hT.1 e) ?_
    rw [cnt_congr (q := fun i => decide (diG g st (i : Int) ∈ S)) fun i hi => by rw [held_has hT hD H hi, Bool.not_not], hc]
    exact hf
  · have hf' : cnt (fun i => decide (diG g st (i : Int) ∈ S)) (nT g) ≤ g.m.toNat := by rw [hc]; exact hf
    obtain ⟨x1, x2, x3⟩ := held_all hT hD H hf'
    obtain ⟨r0, r1, r2⟩ := held_read hT hD H hf'
    have b0 := held_bd hT hD H hf'
    have hfx : fxX a' g st ep = (if pcT a' g st ep (shT g D) (bdT a' g st ep) = true then 130 else 0) := by unfold fxX; rw [if_pos r0, x2]
    have hfs : fxS a' g st ep = psT a' g st ep (shT g D) (bdT a' g st ep) (bdT a' g st ep).length := by unfold fxS; rw [if_pos r0, x2]
    have hmem : ∀ i, i ∈ bdT a' g st ep → i < nT g ∧ diG g st (i : Int) ∈ S ∧ lvT a' (diG g st (i : Int)) = true := fun i hi => by
      rw [b0, plc_mem] at hi
      have := hi.2
      rw [Bool.and_eq_true] at this
      exact ⟨hi.1, of_decide_eq_true this.1, this.2⟩
    have hwr : ∀ i, i ∈ bdT a' g st ep → i < nT g ∧ WrT a' g st i := fun i hi => by
      obtain ⟨m1, m2, m3⟩ := hmem i hi
      refine ⟨m1, (hw i m1).2 (Or.inl fun k0 => ?_)⟩
      rw [(hw i m1).1 k0 m2] at m3
      cases m3
    have hnd : (bdT a' g st ep).Nodup := by rw [b0]; exact plc_nodup _ _
    obtain ⟨P, n1, c1⟩ := ps_all hT hcalm (R := shT g D) hnd hwr (fun i hi => hrow i (hwr i hi).1)
    have f0 : fxX a' g st ep = 0 := by rw [hfx, c1]; rfl
    have hlen : (rtB a' g st ep).length = (if kind = 0 then 0 else S.length) := by
      rw [r2, plc_length]
      by_cases k0 : kind = 0
      · rw [if_pos k0]
        refine cnt_none fun i hi => ?_
        by_cases hm : diG g st (i : Int) ∈ S
        · rw [(hw i hi).1 k0 hm, Bool.and_false]
        · rw [decide_eq_false hm]; rfl
      · rw [if_neg k0, ← hc]
        exact cnt_congr fun i hi => by rw [((hw i hi).2 (Or.inl k0)).lv, Bool.and_true]
    -- behind the fix
    have hrest : ∀ i, i < nT g → i ∉ bdT a' g st ep → diG g st (i : Int) ∈ S → kind = 0 := fun i hi hne hm => by
      refine Classical.byContradiction fun k0 => hne ?_
      rw [b0, plc_mem]
      exact ⟨hi, by rw [((hw i hi).2 (Or.inl k0)).lv, decide_eq_true hm]; rfl⟩
    have H2 : HeldT (fxS a' g st ep) g st ep (shT g D) (fun i => decide (kind = 0) && decide (diG g st (i : Int) ∈ S)) := by
      rw [hfs]
      refine ⟨fun i hi hu => ?_, fun i hi hu => ?_, P.calm.1⟩
      · by_cases hb : i ∈ bdT a' g st ep
        · exact PutT.rb hT hwr (fun i hi => hrow i (hwr i hi).1) P i hb
        · rw [PutT.rb_else hT hcalm hwr P hi hb]
          refine H.ok i hi (decide_eq_false fun hm => ?_)
          rw [hrest i hi hb hm, decide_eq_true hm] at hu
          cases hu
      · rw [Bool.and_eq_true] at hu
        have hm := of_decide_eq_true hu.2
        have k0 : kind = 0 := of_decide_eq_true hu.1
        have hb : i ∉ bdT a' g st ep := fun hb => by
          have := (hmem i hb).2.2
          rw [(hw i hi).1 k0 hm] at this
          cases this
        have e := PutT.rb_else hT hcalm hwr P hi hb
        have := H.bad i hi (decide_eq_true hm)
        unfold hsF at this ⊢
        rw [e]
        exact this
    have hc2 : cnt (fun i => decide (kind = 0) && decide (diG g st (i : Int) ∈ S)) (nT g) ≤ g.m.toNat := Nat.le_trans (cnt_mono fun i hi h => by rw [Bool.and_eq_true] at h; exact h.2) hf'
    obtain ⟨r3, r4, r5⟩ := held_read hT hD H2 hc2
    have bn : bdT a' g st ep = rtB a' g st ep := by unfold rtB; rw [if_pos r0]
    refine ⟨r0, r1, hlen, f0, ?_, r3, r4, ?_⟩
    · unfold fxN
      rw [if_pos f0, x2, n1, bn]
    · rw [r5]
      refine plc_none fun i hi => ?_
      by_cases hu : kind = 0 ∧ diG g st (i : Int) ∈ S
      · have hlv := (hw i hi).1 hu.1 hu.2
        have : lvT (fxS a' g st ep) (diG g st (i : Int)) = lvT a' (diG g st (i : Int)) := by
          have din := diG_in hT.1 hT.2.1 hT.2.2.1 hi
          unfold lvT
          rw [hfs, (P.keeps din.1).1]
          have e : thA (psT a' g st ep (shT g D) (bdT a' g st ep) (bdT a' g st ep).length) (diG g st (i : Int)) ↔ thA a' (diG g st (i : Int)) := by unfold thA; rw [P.len]
          rw [decide_eq_decide.2 e]
        rw [this, hlv, Bool.and_false]
      · have : (decide (kind = 0) && decide (diG g st (i : Int) ∈ S)) = false := by
          rw [← Bool.decide_and]
          exact decide_eq_false hu
        rw [this]; rfl
/-- a stripe that is written on disks that are there -/
theorem whole_write (hT : OkT g st ep) {D : List UInt8} (hD : LenT g D) (hc : Calm a) (hw : ∀ i, i < nT g → WrT a g st i) : swX a g st ep D = 0 ∧ WholeT (swS a g st ep D) g st ep D ∧ PutT a (swS a g st ep D) g st ep (shT g D) (List.range (nT g)) := by
  have hrow : ∀ i, i < nT g → (ro (shT g D) i).length ≤ 4096 := fun i hi => by rw [shT_row hD hT.1 hi]; have := okG_nat hT.1; omega
  have hB : ∀ i, i ∈ List.range (nT g) → i < nT g ∧ WrT a g st i := fun i hi => ⟨List.mem_range.1 hi, hw i (List.mem_range.1 hi)⟩
  obtain ⟨P, n1, c1⟩ := ps_all hT hc (R := shT g D) List.nodup_range hB (fun i hi => hrow i (List.mem_range.1 hi))
  rw [List.length_range] at P
  have e : swS a g st ep D = psT a g st ep (shT g D) (List.range (nT g)) (nT g) := if_pos ⟨hT, hD⟩
  refine ⟨?_, ?_, by rw [e]; exact P⟩
  · unfold swX
    rw [if_pos hT, if_pos hD, c1]
    rfl
  · rw [e]
    refine ⟨P.calm, fun i hi => PutT.rb hT hB (fun i hi => hrow i (List.mem_range.1 hi)) P i (List.mem_range.2 hi), fun i hi => ?_⟩
    have din := diG_in hT.1 hT.2.1 hT.2.2.1 hi
    have k := P.keeps din.1
    exact ⟨⟨(hw i hi).th.1, by rw [P.len]; exact (hw i hi).th.2⟩, by rw [k.1]; exact (hw i hi).al, by rw [k.2]; exact (hw i hi).rm⟩
end
end Go.Proofs.YtddnfhfangfgeaaGreat.Gf
