/- TEXTS JOINED: PoSame, BkRd, BkEvM, CaMath, BkMath, BkAddM, CaOk, BkX, BkPut, BkUy, CaLaws, BkLin, ErMath, ErRd, PoAppend, ErOwn, SyMath, WdMath, WdSets, ErLawM, BkInf, SyCol, SyLawC, WdTry, WdOwn, ErPl. -/
import Derived.Test.YtddnfhfangfgeaaGreatTome1
import Derived.Test.YtddnfhfangfgeaaGreatTome2
import Derived.Laws.AppendOwnNone
namespace Go.Proofs.YtddnfhfangfgeaaGreat.Gf
set_option linter.unusedVariables false
set_option linter.unusedSimpArgs false
open Go.RowKit
def sameB (p q : List UInt8) : Bool := decide (p = q)
theorem sameB_self (p : List UInt8) : sameB p p = true := decide_eq_true rfl
theorem sameB_of {p q : List UInt8} (h : p = q) : sameB p q = true := decide_eq_true h
set_option maxRecDepth 100000 in
set_option maxHeartbeats 1000000 in
/-- of unlike lengths -/
theorem same_len (a b : Option Addr) (n m c d : Nat) (w : World) (h : n ≠ m) :
    Calls Tryz.prog 25 #[.slice a n c, .slice b m d] w fun e w' => e = .returned (.bool false) ∧ w' = w := by
  have hb : ((n : Int) != (m : Int)) = true := by simp; omega
  go_enter Tryz.func25, Tryz.ntmps25
  go_wp2
  go_ret
  exact ⟨rfl, rfl⟩
set_option maxRecDepth 100000 in
set_option maxHeartbeats 1000000 in
/-- of nothing -/
theorem same_nil (a b : Option Addr) (c d : Nat) (w : World) :
    Calls Tryz.prog 25 #[.slice a 0 c, .slice b 0 d] w fun e w' => e = .returned (.bool true) ∧ w' = w := by
  go_enter Tryz.func25, Tryz.ntmps25
  go_wp2
  go_loop [5] (fun i => i = .int .i64 0) (fun _ => 0)
  case atStart => rfl
  case round =>
    subst hrel
    go_wp2
    go_ret
    exact ⟨rfl, rfl⟩
set_option maxRecDepth 100000 in
set_option maxHeartbeats 1000000 in
theorem same_main (b off b' off' c d : Nat) (p q : List UInt8) (w : World) (hl : q.length = p.length) (hm : p.length ≤ 9223372036854775807)
    (hp : ∀ i, i < p.length → w.cell? ⟨b, off + i, none⟩ = some (.int .u8 ((co p i).toNat : Nat)))
    (hq : ∀ i, i < p.length → w.cell? ⟨b', off' + i, none⟩ = some (.int .u8 ((co q i).toNat : Nat))) :
    Calls Tryz.prog 25 #[.slice (some ⟨b, off, none⟩) p.length c, .slice (some ⟨b', off', none⟩) p.length d] w fun e w' => e = .returned (.bool (sameB p q)) ∧ ∃ n, w' = w.drewN n := by
  have hb : ((p.length : Int) != (p.length : Int)) = false := by simp
  go_enter Tryz.func25, Tryz.ntmps25
  go_wp2
  clear hb
  go_loopw [5] (fun i wr => ∃ k : Nat, k ≤ p.length ∧ i = .int .i64 k ∧ Hid (∀ j, j < k → co p j = co q j) ∧ ∃ n, wr = w.drewN n) (fun i _ => p.length - (intOf i).toNat)
  case atStart => exact ⟨0, by omega, rfl, fun j hj => by omega, 0, rfl⟩
  case round =>
    obtain ⟨k, hk, rfl, hs, nd, rfl⟩ := hrel
    by_cases hlt : k < p.length
    · have c1 := hp k hlt
      have c2 := hq k hlt
      by_cases e : co p k = co q k
      · have hn : ((((co p k).toNat : Nat) : Int) != (((co q k).toNat : Nat) : Int)) = false := by rw [ne_u8]; simp [e]
        have HS : Hid (∀ j, j < k + 1 → co p j = co q j) := fun j hj => by
          by_cases e2 : j = k
          · rw [e2]; exact e
          · exact hs.out j (by omega)
        clear e hp hq hs
        go_wp2
        go_quiet (fail)
        go_wp2
        go_roundw
        case rel => exact ⟨k + 1, by omega, by go_num, HS, _, rfl⟩
        case measure => simp [intOf]; omega
      · have hn : ((((co p k).toNat : Nat) : Int) != (((co q k).toNat : Nat) : Int)) = true := by rw [ne_u8]; simp [e]
        have E : Hid (sameB p q = false) := by
          refine decide_eq_false (fun h => e ?_)
          rw [h]
        clear e hp hq hs
        go_wp2
        go_quiet (fail)
        go_wp2
        go_ret
        exact ⟨by rw [E.out]; rfl, _, World.drewN_drewN _ _ _⟩
    · have E : Hid (sameB p q = true) := sameB_of (co_ext hl.symm (fun i hi => hs.out i (by omega)))
      clear hp hq hs
      go_wp2
      go_ret
      exact ⟨by rw [E.out]; rfl, _, rfl⟩
theorem same_any {va vb : Value} {p q : List UInt8} {w : World} (hp : Rd w va p) (hq : Rd w vb q) :
    Calls Tryz.prog 25 #[va, vb] w fun e w' => e = .returned (.bool (sameB p q)) ∧ ∃ n, w' = w.drewN n := by
  have l1 := hp.len
  have l2 := hq.len
  unfold maxLen at l1 l2
  by_cases hl : p.length = q.length
  · rcases hp with ⟨a, c, rfl, rfl, _⟩ | ⟨b, off, c, hp0, rfl, _, _, _, hpc⟩
    · have : q = [] := List.length_eq_zero_iff.1 (by simpa using hl.symm)
      subst this
      rcases hq with ⟨a', c', _, rfl, _⟩ | ⟨_, _, _, h, _⟩
      · exact (same_nil a a' c c' w).mono fun e w' ⟨he, hw⟩ => ⟨by rw [he, sameB_self], 0, hw⟩
      · exact absurd rfl h
    · rcases hq with ⟨a', c', rfl, rfl, _⟩ | ⟨b', off', c', hq0, rfl, _, _, _, hqc⟩
      · exact absurd (List.length_eq_zero_iff.1 hl) hp0
      · rw [← hl]
        exact same_main b off b' off' c c' p q w hl.symm (by omega) hpc (fun i hi => hqc i (by omega))
  · have E : sameB p q = false := decide_eq_false (fun h => hl (by rw [h]))
    have key : ∃ a n c, va = .slice a n c ∧ n = p.length := by
      rcases hp with ⟨a, c, rfl, rfl, _⟩ | ⟨b, off, c, hp0, rfl, _⟩
      · exact ⟨_, _, _, rfl, rfl⟩
      · exact ⟨_, _, _, rfl, rfl⟩
    have key2 : ∃ a n c, vb = .slice a n c ∧ n = q.length := by
      rcases hq with ⟨a, c, rfl, rfl, _⟩ | ⟨b, off, c, hp0, rfl, _⟩
      · exact ⟨_, _, _, rfl, rfl⟩
      · exact ⟨_, _, _, rfl, rfl⟩
    obtain ⟨a, n, c, rfl, rfl⟩ := key
    obtain ⟨a', n', c', rfl, rfl⟩ := key2
    exact (same_len a a' _ _ c c' w hl).mono fun e w' ⟨he, hw⟩ => ⟨by rw [he, E], 0, hw⟩
end Go.Proofs.YtddnfhfangfgeaaGreat.Gf

namespace Go.Proofs.YtddnfhfangfgeaaGreat.Gf
set_option linter.unusedVariables false
set_option linter.unusedSimpArgs false
open Go.RowKit
/-- the shard i -/
def ro (L : List (List UInt8)) (i : Nat) : List UInt8 := L.getD i []
theorem ro_lt {L : List (List UInt8)} {i : Nat} (h : i < L.length) : ro L i = L[i] := by simp [ro, List.getD, h]
theorem ro_ge {L : List (List UInt8)} {i : Nat} (h : L.length ≤ i) : ro L i = [] := by simp [ro, List.getD, h]
theorem ro_some {L : List (List UInt8)} {i : Nat} (h : i < L.length) : L[i]? = some (ro L i) := by rw [ro_lt h]; exact List.getElem?_eq_getElem h
theorem ro_ext {L M : List (List UInt8)} (h : L.length = M.length) (h2 : ∀ i, i < L.length → ro L i = ro M i) : L = M := by
  refine List.ext_getElem h fun i h1 h3 => ?_
  have := h2 i h1
  rwa [ro_lt h1, ro_lt h3] at this
/-- n shards -/
def mkL (n : Nat) (f : Nat → List UInt8) : List (List UInt8) := (List.range n).map f
theorem mkL_length (n : Nat) (f : Nat → List UInt8) : (mkL n f).length = n := by simp [mkL]
theorem ro_mkL {n : Nat} {f : Nat → List UInt8} {i : Nat} (h : i < n) : ro (mkL n f) i = f i := by
  rw [ro_lt (by rw [mkL_length]; exact h)]; simp [mkL]
theorem mkL_ro (L : List (List UInt8)) : mkL L.length (ro L) = L := ro_ext (mkL_length _ _) fun i hi => ro_mkL (by rwa [mkL_length] at hi)
theorem mkL_succ (n : Nat) (f : Nat → List UInt8) : mkL (n + 1) f = mkL n f ++ [f n] := by simp [mkL, List.range_succ]
theorem mkL_congr {n : Nat} {f g : Nat → List UInt8} (h : ∀ i, i < n → f i = g i) : mkL n f = mkL n g := List.map_congr_left fun i hi => h i (List.mem_range.1 hi)
theorem ro_append_left {L M : List (List UInt8)} {i : Nat} (h : i < L.length) : ro (L ++ M) i = ro L i := by simp [ro, List.getD, List.getElem?_append_left h]
theorem ro_append_right {L M : List (List UInt8)} {i : Nat} (h : L.length ≤ i) : ro (L ++ M) i = ro M (i - L.length) := by simp [ro, List.getD, List.getElem?_append_right h]
theorem ro_take {L : List (List UInt8)} {k i : Nat} (h : i < k) : ro (L.take k) i = ro L i := by simp [ro, List.getD, List.getElem?_take_of_lt h]
theorem ro_drop {L : List (List UInt8)} {k i : Nat} : ro (L.drop k) i = ro L (k + i) := by simp [ro, List.getD]
theorem ro_set {L : List (List UInt8)} {k i : Nat} {x : List UInt8} (hk : k < L.length) : ro (L.set k x) i = if i = k then x else ro L i := by
  by_cases e : i = k
  · subst e; rw [if_pos rfl]; simp [ro, List.getD, List.getElem?_set_self hk]
  · rw [if_neg e]; simp [ro, List.getD, List.getElem?_set_ne (fun h => e h.symm)]
def Rs (w : World) (v : Value) (L : List (List UInt8)) : Prop :=
  ∃ (a : Option Addr) (cap : Nat), v = .slice a L.length cap ∧ L.length ≤ cap ∧ cap ≤ maxLen ∧ (a = none → cap = 0) ∧
    ∀ i, i < L.length → ∃ (b off : Nat) (x : Value), a = some ⟨b, off, none⟩ ∧ b < w.heap.size ∧ w.cell? ⟨b, off + i, none⟩ = some x ∧ Rd w x (ro L i)
theorem Rs.below {w w' : World} {v : Value} {L : List (List UInt8)} (h : Rs w v L) (hb : Below w.heap.size w w') : Rs w' v L := by
  obtain ⟨a, cap, h1, h2, h3, h4, h5⟩ := h
  refine ⟨a, cap, h1, h2, h3, h4, fun i hi => ?_⟩
  obtain ⟨b, off, x, k1, k2, k3, k4⟩ := h5 i hi
  exact ⟨b, off, x, k1, Nat.lt_of_lt_of_le k2 hb.size, (hb.cell (p := ⟨b, off + i, none⟩) k2).trans k3, k4.below hb⟩
theorem Rs.drewN {w : World} {v : Value} {L : List (List UInt8)} (h : Rs w v L) (n : Nat) : Rs (w.drewN n) v L := h
theorem Rs.form {w : World} {v : Value} {L : List (List UInt8)} (h : Rs w v L) : ∃ a c, v = .slice a L.length c := by
  obtain ⟨a, c, e, _⟩ := h
  exact ⟨a, c, e⟩
theorem Rs.len {w : World} {v : Value} {L : List (List UInt8)} (h : Rs w v L) : L.length ≤ maxLen := by
  obtain ⟨a, c, e, h1, h2, _⟩ := h
  omega
/-- a shard, as the walk meets it -/
theorem Rs.at {w : World} {a : Option Addr} {n c : Nat} {L : List (List UInt8)} (h : Rs w (.slice a n c) L) {i : Nat} (hi : i < L.length) :
    ∃ (b off : Nat) (xa : Option Addr) (xc : Nat), a = some ⟨b, off, none⟩ ∧ b < w.heap.size ∧ w.cell? ⟨b, off + i, none⟩ = some (.slice xa (ro L i).length xc) ∧ Rd w (.slice xa (ro L i).length xc) (ro L i) := by
  obtain ⟨a', c', e, h1, h2, h3, h4⟩ := h
  simp at e
  obtain ⟨rfl, rfl, rfl⟩ := e
  obtain ⟨b, off, x, k1, k2, k3, k4⟩ := h4 i hi
  obtain ⟨xa, xc, rfl⟩ := k4.form
  exact ⟨b, off, xa, xc, k1, k2, k3, k4⟩
/-- .. where its place is known -/
theorem Rs.get {w : World} {b off n c : Nat} {L : List (List UInt8)} (h : Rs w (.slice (some ⟨b, off, none⟩) n c) L) {i : Nat} (hi : i < L.length) :
    ∃ (xa : Option Addr) (xc : Nat), w.cell? ⟨b, off + i, none⟩ = some (.slice xa (ro L i).length xc) ∧ Rd w (.slice xa (ro L i).length xc) (ro L i) := by
  obtain ⟨b', off', xa, xc, e, h1, h2, h3⟩ := h.at hi
  simp at e
  obtain ⟨rfl, rfl⟩ := e
  exact ⟨xa, xc, h2, h3⟩
theorem Rs.somewhere {w : World} {v : Value} {L : List (List UInt8)} (h : Rs w v L) (hL : 0 < L.length) : ∃ b off cap, v = .slice (some ⟨b, off, none⟩) L.length cap ∧ b < w.heap.size ∧ L.length ≤ cap ∧ cap ≤ maxLen := by
  obtain ⟨a, c, e, h1, h2, h3, h4⟩ := h
  obtain ⟨b, off, x, k1, k2, _⟩ := h4 0 hL
  subst k1
  exact ⟨b, off, c, e, k2, h1, h2⟩
theorem Rd.byte {w : World} {a : Option Addr} {n c : Nat} {p : List UInt8} (h : Rd w (.slice a n c) p) {i : Nat} (hi : i < p.length) : ∃ b off, a = some ⟨b, off, none⟩ ∧ b < w.heap.size ∧ w.cell? ⟨b, off + i, none⟩ = some (.int .u8 ((co p i).toNat : Nat)) := by
  rcases h with ⟨a', c', e, _⟩ | ⟨b, off, cap, _, e, _, _, k, hc⟩
  · subst e; simp at hi
  · simp at e; obtain ⟨rfl, _⟩ := e; exact ⟨b, off, rfl, k, hc i hi⟩
theorem rs_none {w : World} : Rs w (.slice none 0 0) [] := ⟨none, 0, rfl, Nat.le_refl _, Nat.zero_le _, fun _ => rfl, fun i hi => by simp at hi⟩
/-- the first shards -/
theorem Rs.first {w : World} {b off n c k : Nat} {L : List (List UInt8)} (h : Rs w (.slice (some ⟨b, off, none⟩) n c) L) (hk : k ≤ L.length) : Rs w (.slice (some ⟨b, off, none⟩) k c) (L.take k) := by
  obtain ⟨a', c', e, h1, h2, h3, h4⟩ := h
  simp at e
  obtain ⟨e1, e2, e3⟩ := e
  subst e1 e3
  have hl : (L.take k).length = k := by rw [List.length_take]; omega
  refine ⟨some ⟨b, off, none⟩, c, by rw [hl], by rw [hl]; omega, h2, nofun, fun i hi => ?_⟩
  rw [hl] at hi
  obtain ⟨b', off', x, k1, k2, k3, k4⟩ := h4 i (by omega)
  exact ⟨b', off', x, k1, k2, k3, by rw [ro_take hi]; exact k4⟩
/-- .. and those behind them -/
theorem Rs.rest {w : World} {b off n c k : Nat} {L : List (List UInt8)} (h : Rs w (.slice (some ⟨b, off, none⟩) n c) L) (hk : k ≤ L.length) (m : Nat) (hm : m = L.length - k) : Rs w (.slice (some ⟨b, off + k, none⟩) m (c - k)) (L.drop k) := by
  obtain ⟨a', c', e, h1, h2, h3, h4⟩ := h
  simp at e
  obtain ⟨e1, e2, e3⟩ := e
  subst e1 e3 hm
  have hl : (L.drop k).length = L.length - k := by rw [List.length_drop]
  refine ⟨some ⟨b, off + k, none⟩, c - k, by rw [hl], by rw [hl]; omega, by omega, nofun, fun i hi => ?_⟩
  rw [hl] at hi
  obtain ⟨b', off', x, k1, k2, k3, k4⟩ := h4 (k + i) (by omega)
  simp at k1
  obtain ⟨rfl, rfl⟩ := k1
  exact ⟨b, off + k, x, rfl, k2, by rw [Nat.add_assoc]; exact k3, by rw [ro_drop]; exact k4⟩
/-- of the call's own: T the type of a shard, u that of a byte -/
def Os (w : World) (base T u : Nat) (v : Value) (L : List (List UInt8)) : Prop := ∃ vals, w.ownsRow base T 1 v L.length vals ∧ RowsO w base u v vals (ro L)
theorem Os.rs {w : World} {base T u : Nat} {v : Value} {L : List (List UInt8)} (h : Os w base T u v L) : Rs w v L := by
  obtain ⟨vals, hv, hr⟩ := h
  have hlen : vals.length = L.length := by have := hv.1; omega
  have hv' := hv
  obtain ⟨_, ⟨e, hn⟩ | ⟨g, cap, cur, e, hg, hh, hc, hm, hs, ht⟩⟩ := hv
  · subst e
    have : L = [] := List.length_eq_zero_iff.1 hn
    subst this
    exact rs_none
  · subst e
    refine ⟨some ⟨g, 0, none⟩, cap, rfl, hc, hm, nofun, fun i hi => ?_⟩
    have hx : vals[i]? = some vals[i] := List.getElem?_eq_getElem (by omega)
    refine ⟨g, 0, vals[i], rfl, (Array.getElem?_eq_some_iff.1 hh).1, ?_, Rd.owned (hr.own i _ hx)⟩
    rw [Nat.zero_add, World.ownsRow.cellAt hv' i (by omega), hx]
theorem Os.nil (w : World) (base T u : Nat) : Os w base T u (.slice none 0 0) [] := ⟨[], World.ownsRow_nil _ _ _ _, RowsO.nil _ _ _ _ _⟩
theorem Os.later {w w' : World} {base T u : Nat} {v : Value} {L : List (List UInt8)} (h : Os w base T u v L) (hb : Below w.heap.size w w') : Os w' base T u v L := by
  obtain ⟨vals, hv, hr⟩ := h
  exact ⟨vals, owns_later hv hb, ⟨fun i x hx => owns_later (hr.own i x hx) hb, hr.diff, hr.out⟩⟩
theorem Os.base {w : World} {base base' T u : Nat} {v : Value} {L : List (List UInt8)} (h : Os w base T u v L) (hb : base' ≤ base) : Os w base' T u v L := by
  obtain ⟨vals, hv, hr⟩ := h
  exact ⟨vals, ownsRow_base hv hb, ⟨fun i x hx => ownsRow_base (hr.own i x hx) hb, hr.diff, hr.out⟩⟩
theorem Os.as {w : World} {base T u : Nat} {v : Value} {L M : List (List UInt8)} (h : Os w base T u v L) (e : L = M) : Os w base T u v M := e ▸ h
theorem Rs.as {w : World} {v : Value} {L M : List (List UInt8)} (h : Rs w v L) (e : L = M) : Rs w v M := e ▸ h
/-- one byte, told anew -/
def setL (L : List (List UInt8)) (i n : Nat) (y : UInt8) : List (List UInt8) := L.set i ((ro L i).set n y)
theorem setL_length (L : List (List UInt8)) (i n : Nat) (y : UInt8) : (setL L i n y).length = L.length := by simp [setL]
theorem co_at {p : List UInt8} {n j : Nat} {y : UInt8} (hn : n < p.length) : co (p.set n y) j = if j = n then y else co p j := by
  by_cases e : j = n
  · subst e; rw [if_pos rfl]; simp [co, List.getD, hn]
  · rw [if_neg e]; simp [co, List.getD, List.getElem?_set_ne (fun h => e h.symm)]
/-- where a byte of a shard of the call's own lies, and what a store there leaves -/
theorem Os.byte {w : World} {base T u : Nat} {v : Value} {L : List (List UInt8)} (h : Os w base T u v L) {i n : Nat} (hi : i < L.length) (hn : n < (ro L i).length) :
    ∃ G C g c, v = .slice (some ⟨G, 0, none⟩) L.length C ∧ w.cell? ⟨G, i, none⟩ = some (.slice (some ⟨g, 0, none⟩) (ro L i).length c) ∧ w.cell? ⟨g, n, none⟩ = some (.int .u8 ((co (ro L i) n).toNat : Nat)) ∧ w.frozen? ⟨g, n, none⟩ = false ∧ base ≤ g ∧ base ≤ G ∧ g ≠ G ∧ g < w.heap.size ∧
      ∀ y : UInt8, Os (w.setCell ⟨g, n, none⟩ (.int .u8 ((y.toNat : Nat) : Int))) base T u v (setL L i n y) := by
  obtain ⟨vals, hv, hr⟩ := h
  have hlen : vals.length = L.length := by have := hv.1; omega
  have hx : vals[i]? = some vals[i] := List.getElem?_eq_getElem (by omega)
  obtain ⟨g, c, ex, hF⟩ := RowF.of (hr.own i _ hx) (by omega)
  have hG : ∃ G C, v = .slice (some ⟨G, 0, none⟩) L.length C := by
    obtain ⟨_, ⟨e, hn⟩ | ⟨G, cap, cur, e, _⟩⟩ := hv
    · omega
    · exact ⟨G, cap, e⟩
  obtain ⟨G, C, rfl⟩ := hG
  have hgG : g ≠ G := by
    have := hr.out i _ hx
    rw [ex] at this
    rcases this with e | e
    · simp [Value.ownBlock] at e
    · intro e2; subst e2; exact e rfl
  refine ⟨G, C, g, c, rfl, by rw [World.ownsRow.cellAt hv i (by omega), hx, ex], hF.cell hn, hF.unfrozen n, hF.lt.1, (World.ownsRow.lt hv G rfl).1, hgG, hF.lt.2, fun y => ?_⟩
  have h1 := hF.store (f' := fun t => if t = n then y else co (ro L i) t) hn y (fun t => rfl)
  have hg : w.grownBy (w.setCell ⟨g, n, none⟩ (.int .u8 ((y.toNat : Nat) : Int))) (some g) := by
    have O := (Only.refl g w).setCell n (.int .u8 ((y.toNat : Nat) : Int))
    exact ⟨O.os, O.tape, O.output, by rw [O.size]; exact Nat.le_refl _, fun q _ hq => O.block q (fun e => hq (by rw [e]))⟩
  refine ⟨vals, ?_, ⟨fun j x hj => ?_, hr.diff, hr.out⟩⟩
  · rw [setL_length]
    exact World.ownsRow.kept hv hg (Or.inr (by simp [Value.ownBlock]; exact fun e => hgG e.symm))
  · have hjl : j < L.length := by
      rcases Nat.lt_or_ge j vals.length with h | h
      · omega
      · rw [List.getElem?_eq_none h] at hj; cases hj
    unfold setL
    rw [ro_set hi]
    by_cases e : j = i
    · subst e
      rw [if_pos rfl]
      have e2 : x = vals[j] := by rw [hx] at hj; cases hj; rfl
      subst e2
      rw [ex]
      unfold OwnP
      have e3 : (ro L j).set n y = upto (fun t => if t = n then y else co (ro L j) t) (ro L j).length := by
        refine co_ext (by rw [upto_length]; simp) fun t ht => ?_
        rw [co_at hn, upto, co_map_range _ (by simpa using ht)]
      rw [e3, upto_length]
      exact h1
    · rw [if_neg e]
      refine OwnP.kept (hr.own j x hj) hg ?_
      have := hr.diff j i x _ hj hx e
      rw [ex] at this
      exact this
/-- one shard more: x, laid in a block of its own behind the others, then appended -/
theorem Os.push {wr w1 w2 : World} {base T u : Nat} {v v' x : Value} {L : List (List UInt8)} {p : List UInt8} {o' : Obj} {vals : List Value} (hv : wr.ownsRow base T 1 v L.length vals) (hr : RowsO wr base u v vals (ro L)) (b1 : Below wr.heap.size wr w1) (hx : OwnP w1 base u x p) (hb1 : ∀ k, x.ownBlock = some k → wr.heap.size ≤ k)
    (g2 : (w1.alloc o').grownBy w2 v.ownBlock) (hb2 : v'.ownBlock = v.ownBlock ∨ v'.ownBlock = some (w1.alloc o').heap.size) (hv' : w2.ownsRow base T 1 v' (L.length + 1) (vals ++ [x])) : Os w2 base T u v' (L ++ [p]) := by
  have hlen : vals.length = L.length := by have := hv.1; omega
  have vlt : ∀ k, v.ownBlock = some k → k < wr.heap.size := fun k hk => (World.ownsRow.lt hv k hk).2
  have old : ∀ (i : Nat) (y : Value), vals[i]? = some y → ∀ k, y.ownBlock = some k → k < wr.heap.size := fun i y hy k hk => ((hr.own i y hy).lt hk).2
  have xlt : ∀ k, x.ownBlock = some k → k < w1.heap.size := fun k hk => (hx.lt hk).2
  have s1 := b1.size
  refine ⟨vals ++ [x], by rw [List.length_append]; exact hv', ?_⟩
  have at_end : ∀ i y, (vals ++ [x])[i]? = some y → (vals[i]? = some y ∧ i < vals.length) ∨ (i = vals.length ∧ y = x) := fun i y hy => by
    by_cases hi : i < vals.length
    · rw [List.getElem?_append_left hi] at hy; exact Or.inl ⟨hy, hi⟩
    · rw [List.getElem?_append_right (by omega)] at hy
      have : i - vals.length = 0 := by
        rcases Nat.eq_zero_or_pos (i - vals.length) with e | e
        · exact e
        · rw [List.getElem?_eq_none (by simp; omega)] at hy; cases hy
      rw [this] at hy
      simp at hy
      exact Or.inr ⟨by omega, hy.symm⟩
  have keep : ∀ i y, vals[i]? = some y → OwnP w2 base u y (ro L i) := fun i y hy =>
    ((owns_later (hr.own i y hy) b1 : OwnP w1 base u y (ro L i)).alloc o').kept g2 (hr.out i y hy)
  have xkeep : OwnP w2 base u x p := (hx.alloc o').kept g2 (block_apart' hb1 vlt)
  have vout : ∀ y : Value, (∀ k, y.ownBlock = some k → k < w1.heap.size) → (y.ownBlock = none ∨ y.ownBlock ≠ v.ownBlock) → (y.ownBlock = none ∨ y.ownBlock ≠ v'.ownBlock) := fun y hy ho => by
    rcases hb2 with e | e
    · rw [e]; exact ho
    · refine block_apart hy (fun k hk => ?_)
      rw [e] at hk; simp at hk; omega
  refine ⟨fun i y hy => ?_, fun i j y z hy hz hij => ?_, fun i y hy => ?_⟩
  · rcases at_end i y hy with ⟨e, hi⟩ | ⟨rfl, rfl⟩
    · rw [ro_append_left (by omega)]; exact keep i y e
    · rw [ro_append_right (by omega), hlen, Nat.sub_self]; exact xkeep
  · rcases at_end i y hy with ⟨e, _⟩ | ⟨rfl, rfl⟩
    · rcases at_end j z hz with ⟨e', _⟩ | ⟨rfl, rfl⟩
      · exact hr.diff i j y z e e' hij
      · exact block_apart (old i y e) hb1
    · rcases at_end j z hz with ⟨e', _⟩ | ⟨rfl, rfl⟩
      · exact block_apart' hb1 (old j z e')
      · exact absurd rfl hij
  · rcases at_end i y hy with ⟨e, _⟩ | ⟨rfl, rfl⟩
    · exact vout y (fun k hk => by have := old i y e k hk; omega) (hr.out i y e)
    · exact vout y xlt (block_apart' hb1 vlt)
theorem Os.made {w : World} {base T u : Nat} (cur : Array Value) (cap : Nat) (hb : base ≤ w.heap.size) (hm : cap ≤ maxLen) (hs : cur.size = cap * 1) : Os (w.alloc (.cells cur T)) base T u (.slice (some ⟨w.heap.size, 0, none⟩) 0 cap) [] :=
  ⟨[], World.ownsRow_made w cur cap hb hm hs, RowsO.nil _ _ _ _ _⟩
theorem Os.form {w : World} {base T u : Nat} {v : Value} {L : List (List UInt8)} (h : Os w base T u v L) : ∃ a c, v = .slice a L.length c := h.rs.form
/-- 'append(s, x)' on shards of the call's own, x a shard of its own, laid as a list of one -/
theorem wpList_append_os {P : Program} {wr w1 : World} {ops : Array Oper} {rest : List Oper} {o : Oper} {a : Act} {Q : Exit → Act → World → Prop} (hgd : o.guard = none) (s xo : Operand) (t : TypeId)
    (ho : o.op = .call { callee := .builtin .append, args := #[s, xo], argTypes := #[t, t] })
    (base e : Nat) (i : TypeInfo) (ht : P.underlying t = some (.slice e)) (hi : P.info? e = some i) (hz : i.zero = some (.slice none 0 0)) (hsize : i.size = 1) (hby : i.bytes = 24)
    (u : Nat) (v : Value) (L : List (List UInt8)) (hs : a.eval s = v) (hO : Os wr base e u v L) (b1 : Below wr.heap.size wr w1) (x : Value) (p : List UInt8) (hx : OwnP w1 base u x p) (hb1 : ∀ k, x.ownBlock = some k → wr.heap.size ≤ k)
    (et c : Nat) (hxo : a.eval xo = .slice (some ⟨w1.heap.size, 0, none⟩) 1 c) (hl : L.length ≤ 100000) (hbase : base ≤ wr.heap.size)
    (h : ∀ v' w2, Os w2 base e u v' (L ++ [p]) → Below base wr w2 → (∀ q, q < w1.heap.size → v.ownBlock ≠ some q → w2.heap[q]? = w1.heap[q]?) → (∀ q, q < w1.heap.size → v.ownBlock ≠ some q → v'.ownBlock ≠ some q) → wpList P ops Q rest (a.put o.dst v') w2) : wpList P ops Q (o :: rest) a (w1.alloc (.cells #[x] et)) := by
  obtain ⟨vals, hv, hr⟩ := hO
  have s1 := b1.size
  refine wpList_append_one _ hgd s xo t ho base e i ht hi hz hsize hby v L.length vals hs (World.ownsRow.alloc (owns_later hv b1) _) w1.heap.size c x hxo (by simp) hx.one hl (by simp; omega) ?_
  intro v' w2 hv2 hg2 hb2
  refine h v' w2 (Os.push hv hr b1 hx hb1 hg2 hb2 hv2) ?_ (fun q hq hne => ?_) (fun q hq hne => ?_)
  rotate_left
  · rw [hg2.block q (by simp; omega) (fun e => hne e.symm)]
    exact ((Below.refl w1.heap.size w1).alloc (Nat.le_refl _) _).block q hq
  · rcases hb2 with e | e
    · rw [e]; exact hne
    · rw [e]; intro h; cases h; simp at hq; omega
  exact (((b1.mono hbase).alloc (by omega) _).grown hg2 (by simp; omega) (fun q hq => (World.ownsRow.lt hv q hq).1))
/-- What a call that answers shards and an error leaves. -/
def MakesRs (w : World) (x : Int) (L : List (List UInt8)) (e : Ending) (w' : World) : Prop := ∃ v, e = .returned (.tuple #[v, .int .i64 x]) ∧ Rs w' v L ∧ Below w.heap.size w w'
/-- few and short shards -/
def Small (L : List (List UInt8)) : Prop := L.length ≤ 300 ∧ ∀ i, (ro L i).length ≤ 300
end Go.Proofs.YtddnfhfangfgeaaGreat.Gf

namespace Go.Proofs.YtddnfhfangfgeaaGreat.Gf
set_option linter.unusedVariables false
set_option linter.unusedSimpArgs false
open Go.RowKit
/-- all of one length -/
def Even (L : List (List UInt8)) : Prop := ∀ i, i < L.length → (ro L i).length = (ro L 0).length
instance (L : List (List UInt8)) : Decidable (Even L) := inferInstanceAs (Decidable (∀ i, i < L.length → (ro L i).length = (ro L 0).length))
end Go.Proofs.YtddnfhfangfgeaaGreat.Gf

namespace Go.Proofs.YtddnfhfangfgeaaGreat.Gf
set_option linter.unusedVariables false
set_option linter.unusedSimpArgs false
/-- the point of a shard -/
def pt (n : Nat) : UInt8 := UInt8.ofNat n
theorem pt_inj {a b : Nat} (ha : a < 256) (hb : b < 256) (h : pt a = pt b) : a = b := by
  have := congrArg UInt8.toNat h
  unfold pt at this
  rw [UInt8.toNat_ofNat', UInt8.toNat_ofNat', Nat.mod_eq_of_lt ha, Nat.mod_eq_of_lt hb] at this
  exact this
theorem pt_ne {a b : Nat} (ha : a < 256) (hb : b < 256) (h : a ≠ b) : pt a ^^^ pt b ≠ 0 := fun e => h (pt_inj ha hb (x_eq_zero.1 e))
def parF (k : Nat) : Mx := fun i j => iv (pt (k + i) ^^^ pt j)
theorem S_split (n m : Nat) (f : Nat → UInt8) : S (n + m) f = S n f ^^^ S m (fun i => f (n + i)) := by
  induction m with
  | zero => rw [Nat.add_zero]; show S n f = S n f ^^^ 0; rw [x_zero]
  | succ m ih => rw [← Nat.add_assoc, S, ih, S, x_assoc]
def PF : Nat → (UInt8 → UInt8) → Prop
  | 0, f => ∀ z, f z = 0
  | k + 1, f => ∃ c h, PF k h ∧ ∀ z, f z = c ^^^ mu z (h z)
theorem PF.congr {k : Nat} {f g : UInt8 → UInt8} (h : PF k f) (e : ∀ z, g z = f z) : PF k g := by
  cases k with
  | zero => intro z; rw [e]; exact h z
  | succ k => obtain ⟨c, h1, h2, h3⟩ := h; exact ⟨c, h1, h2, fun z => by rw [e]; exact h3 z⟩
theorem PF.zero (k : Nat) : PF k (fun _ => 0) := by
  induction k with
  | zero => intro z; rfl
  | succ k ih => exact ⟨0, fun _ => 0, ih, fun z => by rw [mu_zero, x_zero]⟩
theorem PF.mono {k : Nat} {f : UInt8 → UInt8} (h : PF k f) : PF (k + 1) f := by
  induction k generalizing f with
  | zero => exact ⟨0, fun _ => 0, PF.zero 0, fun z => by rw [h z, mu_zero, x_zero]⟩
  | succ k ih => obtain ⟨c, g, h1, h2⟩ := h; exact ⟨c, g, ih h1, h2⟩
theorem PF.add {k : Nat} {f g : UInt8 → UInt8} (hf : PF k f) (hg : PF k g) : PF k (fun z => f z ^^^ g z) := by
  induction k generalizing f g with
  | zero => intro z; show f z ^^^ g z = 0; rw [hf z, hg z]; rfl
  | succ k ih =>
    obtain ⟨c, f1, h1, h2⟩ := hf
    obtain ⟨d, g1, h3, h4⟩ := hg
    refine ⟨c ^^^ d, _, ih h1 h3, fun z => ?_⟩
    show f z ^^^ g z = c ^^^ d ^^^ mu z (f1 z ^^^ g1 z)
    rw [h2, h4, mu_xor, x_assoc, x_assoc, x_left (mu z (f1 z)) d]
theorem PF.smul {k : Nat} {f : UInt8 → UInt8} (a : UInt8) (hf : PF k f) : PF k (fun z => mu a (f z)) := by
  induction k generalizing f with
  | zero => intro z; show mu a (f z) = 0; rw [hf z, mu_zero]
  | succ k ih =>
    obtain ⟨c, f1, h1, h2⟩ := hf
    refine ⟨mu a c, _, ih h1, fun z => ?_⟩
    show mu a (f z) = mu a c ^^^ mu z (mu a (f1 z))
    rw [h2, mu_xor, mu_left a z]
theorem PF.lin {k : Nat} {f : UInt8 → UInt8} (q : UInt8) (hf : PF k f) : PF (k + 1) (fun z => mu (z ^^^ q) (f z)) := by
  have h1 : PF (k + 1) (fun z => mu z (f z)) := ⟨0, f, hf, fun z => by rw [zero_x]⟩
  exact (h1.add (hf.smul q).mono).congr fun z => xor_mu _ _ _
theorem PF.const (c : UInt8) : PF 1 (fun _ => c) := ⟨c, fun _ => 0, fun _ => rfl, fun z => by rw [mu_zero, x_zero]⟩
theorem PF.sum {k n : Nat} {f : Nat → UInt8 → UInt8} (h : ∀ j, j < n → PF k (f j)) : PF k (fun z => S n (fun j => f j z)) := by
  induction n with
  | zero => exact PF.zero k
  | succ n ih => exact (ih fun j hj => h j (by omega)).add (h n (by omega))
/-- less what it is at r it is divided by z less r -/
theorem PF.div {k : Nat} {f : UInt8 → UInt8} (r : UInt8) (hf : PF (k + 1) f) : ∃ g, PF k g ∧ ∀ z, f z = mu (z ^^^ r) (g z) ^^^ f r := by
  induction k generalizing f with
  | zero =>
    obtain ⟨c, f1, h1, h2⟩ := hf
    exact ⟨fun _ => 0, fun _ => rfl, fun z => by rw [h2 z, h2 r, h1 z, h1 r, mu_zero, mu_zero, mu_zero, zero_x]⟩
  | succ k ih =>
    obtain ⟨c, f1, h1, h2⟩ := hf
    obtain ⟨g, hg, hz⟩ := ih h1
    refine ⟨fun z => f1 r ^^^ mu z (g z), ⟨f1 r, g, hg, fun z => rfl⟩, fun z => ?_⟩
    show f z = mu (z ^^^ r) (f1 r ^^^ mu z (g z)) ^^^ f r
    have e1 : mu z (mu (z ^^^ r) (g z)) = mu (z ^^^ r) (mu z (g z)) := mu_left _ _ _
    rw [h2 z, h2 r, hz z, mu_xor, mu_xor, e1, xor_mu z r (f1 r)]
    generalize mu (z ^^^ r) (mu z (g z)) = A
    generalize mu z (f1 r) = B
    generalize mu r (f1 r) = D
    rw [x_assoc (B ^^^ D), x_left A c D, x_assoc B D, x_left D c, x_left D A, x_self, x_zero, x_left B c, x_comm B A]
/-- as many roots as numbers -/
theorem PF.roots {k : Nat} {f : UInt8 → UInt8} (hf : PF k f) (rs : Nat → UInt8) (hd : ∀ i j, i < k → j < k → i ≠ j → rs i ≠ rs j) (hr : ∀ i, i < k → f (rs i) = 0) : ∀ z, f z = 0 := by
  induction k generalizing f with
  | zero => exact hf
  | succ k ih =>
    obtain ⟨g, hg, hz⟩ := hf.div (rs k)
    rw [hr k (by omega)] at hz
    have h0 := ih hg (fun i j hi hj => hd i j (by omega) (by omega)) (fun i hi => by
      have h1 := hr i (by omega)
      rw [hz, x_zero] at h1
      rcases mu_eq_zero.1 h1 with h2 | h2
      · exact absurd (x_eq_zero.1 h2) (hd i k (by omega) (by omega) (by omega))
      · exact h2)
    intro z
    rw [hz, h0 z, mu_zero, x_zero]
def PD (q : Nat → UInt8) : Nat → UInt8 → UInt8
  | 0, _ => 1
  | n + 1, z => mu (z ^^^ q n) (PD q n z)
def PE (q : Nat → UInt8) (j : Nat) : Nat → UInt8 → UInt8
  | 0, _ => 1
  | n + 1, z => if n = j then PE q j n z else mu (z ^^^ q n) (PE q j n z)
theorem PE_deg (q : Nat → UInt8) (j n : Nat) : (j < n → PF n (PE q j n)) ∧ (n ≤ j → PF (n + 1) (PE q j n)) := by
  induction n with
  | zero => exact ⟨fun h => by omega, fun _ => PF.const 1⟩
  | succ n ih =>
    refine ⟨fun h => ?_, fun h => ?_⟩
    · by_cases e : n = j
      · exact (ih.2 (by omega)).congr fun z => by rw [PE, if_pos e]
      · exact ((ih.1 (by omega)).lin (q n)).congr fun z => by rw [PE, if_neg e]
    · exact ((ih.2 (by omega)).lin (q n)).congr fun z => by rw [PE, if_neg (by omega)]
theorem PE_far (q : Nat → UInt8) (j n : Nat) (h : n ≤ j) (z : UInt8) : PE q j n z = PD q n z := by
  induction n with
  | zero => rfl
  | succ n ih => rw [PE, if_neg (by omega), ih (by omega), PD]
theorem PE_mul (q : Nat → UInt8) {j n : Nat} (h : j < n) (z : UInt8) : mu (z ^^^ q j) (PE q j n z) = PD q n z := by
  induction n with
  | zero => omega
  | succ n ih =>
    by_cases e : n = j
    · subst e; rw [PE, if_pos rfl, PE_far q n n (Nat.le_refl _), PD]
    · rw [PE, if_neg e, mu_left, ih (by omega), PD]
theorem PE_other (q : Nat → UInt8) {j l n : Nat} (hl : l < n) (hj : l ≠ j) : PE q j n (q l) = 0 := by
  induction n with
  | zero => omega
  | succ n ih =>
    by_cases e : n = l
    · subst e; rw [PE, if_neg hj, x_self, zero_mu]
    · have := ih (by omega)
      rw [PE, this, mu_zero]; split <;> rfl
theorem PE_own (q : Nat → UInt8) (j n : Nat) (hd : ∀ l, l < n → l ≠ j → q j ^^^ q l ≠ 0) : PE q j n (q j) ≠ 0 := by
  induction n with
  | zero => exact (by decide : (1 : UInt8) ≠ 0)
  | succ n ih =>
    have h := ih fun l hl => hd l (by omega)
    rw [PE]
    split
    · exact h
    · exact mu_ne (hd n (by omega) (by assumption)) h
end Go.Proofs.YtddnfhfangfgeaaGreat.Gf

namespace Go.Proofs.YtddnfhfangfgeaaGreat.Gf
set_option linter.unusedVariables false
set_option linter.unusedSimpArgs false
open Go.RowKit
/-- a parity byte: the sum of the first j products -/
def wd (F : Mx) (L : List (List UInt8)) (i j n : Nat) : UInt8 := S j (fun l => mu (F i l) (co (ro L l) n))
theorem wd_succ (F : Mx) (L : List (List UInt8)) (i j n : Nat) : wd F L i (j + 1) n = wd F L i j n ^^^ mu (F i j) (co (ro L j) n) := rfl
/-- a parity shard -/
def parR (k : Nat) (F : Mx) (L : List (List UInt8)) (i : Nat) : List UInt8 := upto (wd F L i k) (ro L 0).length
theorem parR_length (k : Nat) (F : Mx) (L : List (List UInt8)) (i : Nat) : (parR k F L i).length = (ro L 0).length := upto_length _ _
/-- all shards of data shards -/
def encL (m k : Nat) (F : Mx) (L : List (List UInt8)) : List (List UInt8) := L ++ mkL m (parR k F L)
theorem encL_length (m k : Nat) (F : Mx) (L : List (List UInt8)) : (encL m k F L).length = L.length + m := by unfold encL; rw [List.length_append, mkL_length]
theorem upto_co (p : List UInt8) : upto (co p) p.length = p := co_ext (upto_length _ _) fun i hi => by rw [upto_length] at hi; exact co_map_range _ hi
theorem co_upto_in {f : Nat → UInt8} {k i : Nat} (h : i < k) : co (upto f k) i = f i := co_map_range f h
end Go.Proofs.YtddnfhfangfgeaaGreat.Gf



namespace Go.Proofs.YtddnfhfangfgeaaGreat.Gf
set_option linter.unusedVariables false
set_option linter.unusedSimpArgs false
open Go.RowKit
/-- so many shards may be -/
def OkC (k m : Int) : Prop := 1 ≤ k ∧ 0 ≤ m ∧ k + m ≤ 256
theorem OkC.nat {k m : Int} (h : OkC k m) : ∃ k' m' : Nat, k = (k' : Int) ∧ m = (m' : Int) ∧ 1 ≤ k' ∧ k' + m' ≤ 256 := by
  obtain ⟨h1, h2, h3⟩ := h
  obtain ⟨k', rfl⟩ := Int.eq_ofNat_of_zero_le (show 0 ≤ k by omega)
  obtain ⟨m', rfl⟩ := Int.eq_ofNat_of_zero_le h2
  exact ⟨k', m', rfl, rfl, by omega, by omega⟩
theorem okC_mk {k m : Nat} (h1 : 1 ≤ k) (h2 : k + m ≤ 256) : OkC k m := ⟨by omega, by omega, by omega⟩
theorem pt_toNat {n : Nat} (h : n < 256) : (pt n).toNat = n := by unfold pt; rw [UInt8.toNat_ofNat']; exact Nat.mod_eq_of_lt h
theorem pt_xor {a b : Nat} (ha : a < 256) (hb : b < 256) : bits .xor .u8 (a : Int) (b : Int) = (((pt a ^^^ pt b).toNat : Nat) : Int) := by
  rw [u8_xor_nat _ _ ha hb, UInt8.toNat_xor, pt_toNat ha, pt_toNat hb]
end Go.Proofs.YtddnfhfangfgeaaGreat.Gf



namespace Go.Proofs.YtddnfhfangfgeaaGreat.Gf
set_option linter.unusedVariables false
set_option linter.unusedSimpArgs false
open Go.RowKit
/-- what a store of a slice to its place leaves -/
theorem Os.spot {wr w1 : World} {base T u G n C : Nat} {L : List (List UInt8)} (h : Os wr base T u (.slice (some ⟨G, 0, none⟩) n C) L) (b1 : Below wr.heap.size wr w1) {i : Nat} (hi : i < L.length) :
    ∃ y, w1.cell? ⟨G, i, none⟩ = some y ∧ w1.frozen? ⟨G, i, none⟩ = false ∧ G < w1.heap.size ∧ base ≤ G ∧ G < wr.heap.size := by
  obtain ⟨vals, hv, hr⟩ := h
  have hl : vals.length = L.length := by have := hv.1; omega
  have hG := World.ownsRow.lt hv G rfl
  have hv1 := owns_later hv b1
  have hn : n = L.length := by
    obtain ⟨_, ⟨e, _⟩ | ⟨g, cap, cur, e, _⟩⟩ := hv <;> simp at e
    exact e.2.1
  subst hn
  exact ⟨vals[i], by rw [World.ownsRow.cellAt hv1 i (by omega)]; exact List.getElem?_eq_getElem (by omega), World.ownsRow.frozenAt hv1 i, Nat.lt_of_lt_of_le hG.2 b1.size, hG.1, hG.2⟩
theorem Only.grown {g : Nat} {w w' : World} (O : Only g w w') : w.grownBy w' (some g) :=
  ⟨O.os, O.tape, O.output, by rw [O.size]; exact Nat.le_refl _, fun q _ hq => O.block q (fun e => hq (by rw [e]))⟩
/-- a shard of the call's own, stored to its place, and then told anew in its block g -/
theorem Os.put {wr w1 w3 : World} {base T u G n C g : Nat} {x : Value} {L : List (List UInt8)} {p : List UInt8} (h : Os wr base T u (.slice (some ⟨G, 0, none⟩) n C) L) (b1 : Below wr.heap.size wr w1) {i : Nat} (hi : i < L.length) (hx : x.ownBlock = some g) (hg : wr.heap.size ≤ g)
    (O : Only g (w1.setCell ⟨G, i, none⟩ x) w3) (hp : OwnP w3 base u x p) : Os w3 base T u (.slice (some ⟨G, 0, none⟩) n C) (L.set i p) := by
  obtain ⟨vals, hv, hr⟩ := h
  have hl : vals.length = L.length := by have := hv.1; omega
  have hG := World.ownsRow.lt hv G rfl
  have hv1 := owns_later hv b1
  have hn : n = L.length := by
    obtain ⟨_, ⟨e, _⟩ | ⟨g, cap, cur, e, _⟩⟩ := hv <;> simp at e
    exact e.2.1
  subst hn
  obtain ⟨v8, g8⟩ := World.ownsRow.stored hv1 i x
  have old : ∀ (j : Nat) (y : Value), vals[j]? = some y → ∀ k, y.ownBlock = some k → k < wr.heap.size := fun j y hy k hk => ((hr.own j y hy).lt hk).2
  have sets : ∀ (j : Nat) (y : Value), (vals.set i x)[j]? = some y → (j = i ∧ y = x) ∨ (j ≠ i ∧ vals[j]? = some y) := fun j y hy => by
    by_cases e : j = i
    · subst e
      rw [List.getElem?_set_self (by omega)] at hy
      exact Or.inl ⟨rfl, by cases hy; rfl⟩
    · rw [List.getElem?_set_ne (fun h => e h.symm)] at hy
      exact Or.inr ⟨e, hy⟩
  refine ⟨vals.set i x, by rw [List.length_set]; exact World.ownsRow.kept v8 O.grown (Or.inr (by simp [Value.ownBlock]; omega)), ⟨fun j y hy => ?_, fun j l y z hy hz hjl => ?_, fun j y hy => ?_⟩⟩
  · rw [ro_set hi]
    rcases sets j y hy with ⟨rfl, rfl⟩ | ⟨e, hy⟩
    · rw [if_pos rfl]; exact hp
    · rw [if_neg e]
      exact OwnP.kept (OwnP.kept (owns_later (hr.own j y hy) b1) g8 (hr.out j y hy)) O.grown (block_apart (old j y hy) (fun k e => by cases e; exact hg))
  · rcases sets j y hy with ⟨ej, ey⟩ | ⟨ej, hy'⟩
    · rcases sets l z hz with ⟨el, ez⟩ | ⟨el, hz'⟩
      · exact absurd (ej.trans el.symm) hjl
      · rw [ey]; exact block_apart' (s := wr.heap.size) (fun k hk => by rw [hx] at hk; cases hk; exact hg) (old l z hz')
    · rcases sets l z hz with ⟨el, ez⟩ | ⟨el, hz'⟩
      · rw [ez]; exact block_apart (old j y hy') (fun k hk => by rw [hx] at hk; cases hk; exact hg)
      · exact hr.diff j l y z hy' hz' hjl
  · rcases sets j y hy with ⟨rfl, rfl⟩ | ⟨e, hy⟩
    · right; rw [hx]; simp [Value.ownBlock]; omega
    · exact hr.out j y hy
/-- 'make' of shards: none of them -/
theorem Os.blank {w : World} {base T u G n : Nat} {cs : List Value} (hv : w.ownsRow base T 1 (.slice (some ⟨G, 0, none⟩) n n) n cs) (hc : ∀ y ∈ cs, y = .slice none 0 0) : Os w base T u (.slice (some ⟨G, 0, none⟩) n n) (mkL n (fun _ => [])) := by
  have hl : cs.length = n := by have := hv.1; omega
  refine ⟨cs, by rw [mkL_length]; exact hv, ⟨fun i x hx => ?_, fun i j x y hx _ _ => ?_, fun i x hx => ?_⟩⟩
  · have hi : i < n := by
      rcases Nat.lt_or_ge i cs.length with h | h
      · omega
      · rw [List.getElem?_eq_none h] at hx; cases hx
    rw [ro_mkL hi, hc x (List.mem_of_getElem? hx)]
    exact World.ownsRow_nil _ _ _ _
  · left; rw [hc x (List.mem_of_getElem? hx)]; rfl
  · left; rw [hc x (List.mem_of_getElem? hx)]; rfl
end Go.Proofs.YtddnfhfangfgeaaGreat.Gf





namespace Go.Proofs.YtddnfhfangfgeaaGreat.Gf
set_option linter.unusedVariables false
set_option linter.unusedSimpArgs false
open Go.RowKit
theorem enc_row_lt {m k : Nat} {F : Mx} {L : List (List UInt8)} {i : Nat} (h : i < L.length) : ro (encL m k F L) i = ro L i := ro_append_left h
theorem enc_row_ge {m k : Nat} {F : Mx} {L : List (List UInt8)} {i : Nat} (h : i < m) : ro (encL m k F L) (L.length + i) = parR k F L i := by
  unfold encL
  rw [ro_append_right (by omega), show L.length + i - L.length = i by omega, ro_mkL h]
theorem enc_row_ge' {m k : Nat} {F : Mx} {L : List (List UInt8)} {i : Nat} (h : L.length ≤ i) (h2 : i < L.length + m) : ro (encL m k F L) i = parR k F L (i - L.length) := by
  have := enc_row_ge (m := m) (k := k) (F := F) (L := L) (i := i - L.length) (by omega)
  rwa [show L.length + (i - L.length) = i by omega] at this
theorem enc_len {m k : Nat} {F : Mx} {L : List (List UInt8)} (hE : Even L) {i : Nat} (h : i < L.length + m) : (ro (encL m k F L) i).length = (ro L 0).length := by
  by_cases e : i < L.length
  · rw [enc_row_lt e]; exact hE i e
  · rw [enc_row_ge' (by omega) h, parR_length]
end Go.Proofs.YtddnfhfangfgeaaGreat.Gf

namespace Go.Proofs.YtddnfhfangfgeaaGreat.Gf
set_option linter.unusedVariables false
set_option linter.unusedSimpArgs false
open Go.RowKit
/-- is the shard i there? -/
def hb (h : List Bool) (i : Nat) : Bool := h.getD i false
theorem hb_ge {h : List Bool} {i : Nat} (hi : h.length ≤ i) : hb h i = false := by simp [hb, List.getD, hi]
/-- of those that are there all are of one length -/
def EvenH (h : List Bool) (L : List (List UInt8)) : Prop := ∀ i j, hb h i = true → hb h j = true → (ro L i).length = (ro L j).length
/-- .. and short -/
def SmallH (h : List Bool) (L : List (List UInt8)) : Prop := L.length ≤ 300 ∧ ∀ i, hb h i = true → (ro L i).length ≤ 300
theorem Small.h {L : List (List UInt8)} (hS : Small L) (h : List Bool) : SmallH h L := ⟨hS.1, fun i _ => hS.2 i⟩
end Go.Proofs.YtddnfhfangfgeaaGreat.Gf

namespace Go.Proofs.YtddnfhfangfgeaaGreat.Gf
set_option linter.unusedVariables false
set_option linter.unusedSimpArgs false
open Go.RowKit
def RdB (w : World) (v : Value) (h : List Bool) : Prop :=
  ∃ (a : Option Addr) (cap : Nat), v = .slice a h.length cap ∧ h.length ≤ cap ∧ cap ≤ maxLen ∧ (a = none → cap = 0) ∧ ∀ i, i < h.length → ∃ b off, a = some ⟨b, off, none⟩ ∧ b < w.heap.size ∧ w.cell? ⟨b, off + i, none⟩ = some (.bool (hb h i))
theorem RdB.below {w w' : World} {v : Value} {h : List Bool} (r : RdB w v h) (hb : Below w.heap.size w w') : RdB w' v h := by
  obtain ⟨a, cap, h1, h2, h3, h4, h5⟩ := r
  refine ⟨a, cap, h1, h2, h3, h4, fun i hi => ?_⟩
  obtain ⟨b, off, k1, k2, k3⟩ := h5 i hi
  exact ⟨b, off, k1, Nat.lt_of_lt_of_le k2 hb.size, (hb.cell (p := ⟨b, off + i, none⟩) k2).trans k3⟩
theorem RdB.drewN {w : World} {v : Value} {h : List Bool} (r : RdB w v h) (n : Nat) : RdB (w.drewN n) v h := r
theorem RdB.form {w : World} {v : Value} {h : List Bool} (r : RdB w v h) : ∃ a c, v = .slice a h.length c := by
  obtain ⟨a, c, e, _⟩ := r
  exact ⟨a, c, e⟩
theorem RdB.len {w : World} {v : Value} {h : List Bool} (r : RdB w v h) : h.length ≤ maxLen := by
  obtain ⟨a, c, e, h1, h2, _⟩ := r
  omega
/-- a bool, as the walk meets it -/
theorem RdB.at {w : World} {a : Option Addr} {n c : Nat} {h : List Bool} (r : RdB w (.slice a n c) h) {i : Nat} (hi : i < h.length) : ∃ b off, a = some ⟨b, off, none⟩ ∧ b < w.heap.size ∧ w.cell? ⟨b, off + i, none⟩ = some (.bool (hb h i)) := by
  obtain ⟨a', c', e, h1, h2, h3, h4⟩ := r
  simp at e
  obtain ⟨rfl, rfl, rfl⟩ := e
  exact h4 i hi
theorem RdB.get {w : World} {b off n c : Nat} {h : List Bool} (r : RdB w (.slice (some ⟨b, off, none⟩) n c) h) {i : Nat} (hi : i < h.length) : w.cell? ⟨b, off + i, none⟩ = some (.bool (hb h i)) := by
  obtain ⟨b', off', e, _, h1⟩ := r.at hi
  simp at e
  obtain ⟨rfl, rfl⟩ := e
  exact h1
/-- a literal of bools -/
theorem rdB_lit {w : World} {n b : Nat} {cs : Array Value} {e : Nat} (h : List Bool) (hb0 : b = w.heap.size) (hn : h.length = n) (hs : cs.toList = h.map Value.bool) (hl : n ≤ 1000000) : RdB (w.alloc (.cells cs e)) (.slice (some ⟨b, 0, none⟩) n n) h := by
  subst hb0 hn
  refine ⟨some ⟨w.heap.size, 0, none⟩, h.length, rfl, Nat.le_refl _, by unfold maxLen; omega, nofun, fun i hi => ⟨w.heap.size, 0, rfl, by simp, ?_⟩⟩
  rw [Nat.zero_add, World.cell?_alloc_new, ← Array.getElem?_toList, hs, List.getElem?_map, List.getElem?_eq_getElem hi]
  simp [hb, List.getD, hi]
end Go.Proofs.YtddnfhfangfgeaaGreat.Gf

namespace Go.Proofs.YtddnfhfangfgeaaGreat.Gf
set_option linter.unusedVariables false
set_option linter.unusedSimpArgs false
open Go.RowKit
theorem wpList_append_rd {P : Program} (w : World) {ops : Array Oper} {rest : List Oper} {o : Oper} {a : Act} {Q : Exit → Act → World → Prop} (hgd : o.guard = none) (s x : Operand) (t : TypeId)
    (ho : o.op = .call { callee := .builtin .append, args := #[s, x], argTypes := #[t, t] })
    (base : Nat) (e : TypeId) (i : TypeInfo) (ht : P.underlying t = some (.slice e)) (hi : P.info? e = some i) (hz : i.zero = some (.int .u8 0)) (hsize : i.size = 1) (hby : i.bytes = 1)
    (v : Value) (n : Nat) (xs : List Value) (hs : a.eval s = v) (hown : w.ownsRow base e 1 v n xs) (va : Value) (p : List UInt8) (hx : a.eval x = va) (hr : Rd w va p) (hl : n + p.length ≤ 1000000) (hbase : base ≤ w.heap.size)
    (h : ∀ v' w', w'.ownsRow base e 1 v' (n + p.length) (xs ++ p.map vb) → w.grownBy w' v.ownBlock → wpList P ops Q rest (a.put o.dst v') w') : wpList P ops Q (o :: rest) a w := by
  rcases hr with ⟨ao, cap, rfl, rfl, hc, hn⟩ | ⟨b, off, cap, hp0, rfl, h1, h2, h3, hpc⟩
  · rcases ao with _ | ad
    · have := hn rfl
      subst this
      refine wpList_append_own_none hgd s x t ho base e i 1 ht hi v n xs hs hown hx ?_
      exact h v w (by simpa using hown) (World.grownBy.refl _ _)
    · refine wpList_append_own w hgd s x t ho base e i (.int .u8 0) 1 1 ht hi hz hsize hby rfl (by decide) v n xs hs hown ad 0 cap [] hx rfl (by intro j u hj; simp at hj) (by intro u hu; simp at hu) (by unfold maxLen; omega) (by omega) hbase ?_
      intro v' w' ho' hg' _
      exact h v' w' (by simpa using ho') hg'
  · refine wpList_append_own w hgd s x t ho base e i (.int .u8 0) 1 1 ht hi hz hsize hby rfl (by decide) v n xs hs hown ⟨b, off, none⟩ p.length cap ((p.take p.length).map vb) hx (by simp) (news_of hpc) (vb_one _) (by unfold maxLen; omega) (by omega) hbase ?_
    intro v' w' ho' hg' _
    exact h v' w' (by simpa using ho') hg'
end Go.Proofs.YtddnfhfangfgeaaGreat.Gf

namespace Go.Proofs.YtddnfhfangfgeaaGreat.Gf
set_option linter.unusedVariables false
set_option linter.unusedSimpArgs false
open Go.RowKit
def vi (z : Nat) : Value := .int .i64 (z : Int)
def toI (zs : List Nat) : List Int := zs.map fun (z : Nat) => (z : Int)
theorem toI_length (zs : List Nat) : (toI zs).length = zs.length := by simp [toI]
theorem toI_getD (zs : List Nat) (i : Nat) : (toI zs).getD i 0 = ((zs.getD i 0 : Nat) : Int) := by
  unfold toI
  by_cases h : i < zs.length
  · simp [List.getD, h]
  · simp [List.getD, Nat.le_of_not_lt h]
/-- a row of places of the call's own -/
def OwnI (w : World) (base e : Nat) (v : Value) (zs : List Nat) : Prop := w.ownsRow base e 1 v zs.length (zs.map vi)
theorem OwnI.form {w : World} {base e : Nat} {v : Value} {zs : List Nat} (h : OwnI w base e v zs) : ∃ a c, v = .slice a zs.length c := owns_form h
theorem OwnI.cell {w : World} {base e : Nat} {a : Option Addr} {n c : Nat} {zs : List Nat} (h : OwnI w base e (.slice a n c) zs) {i : Nat} (hi : i < zs.length) : ∃ g, a = some ⟨g, 0, none⟩ ∧ g < w.heap.size ∧ base ≤ g ∧ w.cell? ⟨g, i, none⟩ = some (.int .i64 ((zs.getD i 0 : Nat) : Int)) := by
  have h' := h
  obtain ⟨_, ⟨e, hn⟩ | ⟨g, cap, cur, e, hg, hh, hc, hm, hs, ht⟩⟩ := h
  · omega
  · simp at e
    obtain ⟨rfl, rfl, rfl⟩ := e
    have hlt := World.ownsRow.lt h' g rfl
    refine ⟨g, rfl, hlt.2, hlt.1, ?_⟩
    rw [World.ownsRow.cellAt h' i (by omega), List.getElem?_map, List.getElem?_eq_getElem hi]
    simp [vi, List.getD, hi]
theorem OwnI.rd {w : World} {base e : Nat} {v : Value} {zs : List Nat} (h : OwnI w base e v zs) (hl : zs.length ≤ 1000000) : RdI w v (toI zs) := by
  obtain ⟨a, c, rfl⟩ := h.form
  by_cases h0 : zs = []
  · subst h0; exact Or.inl ⟨a, c, rfl, rfl⟩
  · have hpos : 0 < zs.length := List.length_pos_iff.2 h0
    obtain ⟨g, rfl, hg, _, _⟩ := h.cell hpos
    refine Or.inr ⟨g, 0, c, fun e => h0 (by unfold toI at e; simpa using e), by rw [toI_length], by rw [toI_length]; unfold maxLen; omega, hg, fun i hi => ?_⟩
    rw [toI_length] at hi
    obtain ⟨g', e, _, _, hc⟩ := h.cell hi
    simp at e
    subst e
    rw [Nat.zero_add, hc, toI_getD]
theorem OwnI.nil (w : World) (base e : Nat) : OwnI w base e (.slice none 0 0) [] := World.ownsRow_nil _ _ _ _
/-- a slice of places, as the walk meets it -/
theorem RdI.at {w : World} {a : Option Addr} {n c : Nat} {zs : List Int} (h : RdI w (.slice a n c) zs) {i : Nat} (hi : i < zs.length) : ∃ b off, a = some ⟨b, off, none⟩ ∧ b < w.heap.size ∧ w.cell? ⟨b, off + i, none⟩ = some (.int .i64 (zs.getD i 0)) := by
  rcases h with ⟨_, _, e, _⟩ | ⟨b, off, cap, _, e, _, hb, hc⟩
  · subst e; simp at hi
  · simp at e
    obtain ⟨rfl, rfl, rfl⟩ := e
    exact ⟨b, off, rfl, hb, hc i hi⟩
theorem RdI.get {w : World} {b off n c : Nat} {zs : List Int} (h : RdI w (.slice (some ⟨b, off, none⟩) n c) zs) {i : Nat} (hi : i < zs.length) : w.cell? ⟨b, off + i, none⟩ = some (.int .i64 (zs.getD i 0)) := by
  obtain ⟨b', off', e, _, h1⟩ := h.at hi
  simp at e
  obtain ⟨rfl, rfl⟩ := e
  exact h1
/-- 'append(s, x)' on places of the call's own, x laid as a list of one -/
theorem wpList_append_int {P : Program} {wr : World} {ops : Array Oper} {rest : List Oper} {o : Oper} {a : Act} {Q : Exit → Act → World → Prop} (hgd : o.guard = none) (s xo : Operand) (t : TypeId)
    (ho : o.op = .call { callee := .builtin .append, args := #[s, xo], argTypes := #[t, t] })
    (base e : Nat) (i : TypeInfo) (ht : P.underlying t = some (.slice e)) (hi : P.info? e = some i) (hz : i.zero = some (.int .i64 0)) (hsize : i.size = 1) (hby : i.bytes = 8)
    (v : Value) (zs : List Nat) (hs : a.eval s = v) (hO : OwnI wr base e v zs) (z : Nat) (et c : Nat) (hxo : a.eval xo = .slice (some ⟨wr.heap.size, 0, none⟩) 1 c) (hl : zs.length ≤ 100000) (hbase : base ≤ wr.heap.size)
    (h : ∀ v' w2, OwnI w2 base e v' (zs ++ [z]) → Below base wr w2 → wpList P ops Q rest (a.put o.dst v') w2) : wpList P ops Q (o :: rest) a (wr.alloc (.cells #[.int .i64 (z : Int)] et)) := by
  refine wpList_plain hgd fun K hK => ?_
  obtain ⟨v', w', hrun, h2, h3, _, h5⟩ := run_append_own_at (P := P) (wr.alloc (.cells #[.int .i64 (z : Int)] et)) base t o.type e i (.int .i64 0) 1 8 ht hi hz hsize hby rfl (by decide) v zs.length (zs.map vi) (World.ownsRow.alloc hO _) ⟨wr.heap.size, 0, none⟩ 1 c [vi z] rfl (by intro j y hj; rw [add_at, Nat.zero_add]; rcases j with _ | j <;> simp at hj; subst hj; simp [vi]) (by intro y hy; simp at hy; rw [hy]; rfl) (by unfold maxLen; omega) (by omega) (by simp; omega)
  unfold Oper.wp execOp
  simp only [ho, resolve, invoke, builtin, Sem.run_bind, Sem.run_pure, Result.andThen_ok, List.map_toArray, List.map_cons, List.map_nil, hs, hxo, hrun]
  refine hK _ _ (h v' w' ?_ ?_)
  · unfold OwnI
    rw [List.length_append, List.map_append]
    exact h2
  · exact ((Below.refl base wr).alloc hbase _).grown h3 (by simp; omega) (fun q hq => (World.ownsRow.lt hO q hq).1)
end Go.Proofs.YtddnfhfangfgeaaGreat.Gf

namespace Go.Proofs.YtddnfhfangfgeaaGreat.Gf
set_option linter.unusedVariables false
set_option linter.unusedSimpArgs false
/-- the product of the sums of the point i and the first n parity points, but i itself -/
def wpd (k i : Nat) : Nat → UInt8
  | 0 => 1
  | n + 1 => if k + n = i then wpd k i n else mu (wpd k i n) (pt i ^^^ pt (k + n))
theorem wpd_self {k i n : Nat} (h : k + n = i) : wpd k i (n + 1) = wpd k i n := by rw [wpd, if_pos h]
theorem wpd_next {k i n : Nat} (h : k + n ≠ i) : wpd k i (n + 1) = mu (wpd k i n) (pt i ^^^ pt (k + n)) := by rw [wpd, if_neg h]
theorem wpd_ne {k i n : Nat} (hk : k + n ≤ 256) (hi : i < 256) : wpd k i n ≠ 0 := by
  induction n with
  | zero => exact (by decide : (1 : UInt8) ≠ 0)
  | succ n ih =>
    have h := ih (by omega)
    by_cases e : k + n = i
    · rw [wpd_self e]; exact h
    · rw [wpd_next e]; exact mu_ne h (pt_ne hi (by omega) (fun x => e x.symm))
/-- the weight of the shard i -/
def wtF (k m i : Nat) : UInt8 := iv (wpd k i m)
theorem wiv_ne {a : UInt8} (h : a ≠ 0) : iv a ≠ 0 := fun e => by
  have := mu_iv h
  rw [e, mu_zero] at this
  cases this
theorem wtF_ne {k m i : Nat} (h : k + m ≤ 256) (hi : i < 256) : wtF k m i ≠ 0 := wiv_ne (wpd_ne h hi)
/-- a number times a point's powers, as it goes on -/
def nmF (a p : UInt8) : Nat → UInt8
  | 0 => a
  | n + 1 => mu (nmF a p n) p
theorem nmF_pwr (a p : UInt8) (n : Nat) : nmF a p n = mu a (nmF 1 p n) := by
  induction n with
  | zero => exact (mu_one a).symm
  | succ n ih => rw [nmF, ih, nmF, mu_assoc]
/-- the syndrome of l -/
def synF (k m : Nat) (z : Nat → UInt8) (l : Nat) : UInt8 := S (k + m) (fun i => mu (mu (z i) (wtF k m i)) (nmF 1 (pt i) l))
theorem synF_congr {k m l : Nat} {z y : Nat → UInt8} (h : ∀ i, i < k + m → z i = y i) : synF k m z l = synF k m y l := S_congr fun i hi => by rw [h i hi]
theorem synF_add {k m l : Nat} {z y x : Nat → UInt8} (h : ∀ i, i < k + m → x i = z i ^^^ y i) : synF k m x l = synF k m z l ^^^ synF k m y l := by
  unfold synF
  rw [← S_xor]
  exact S_congr fun i hi => by rw [h i hi, xor_mu, xor_mu]
theorem PF.mono' {k n : Nat} {f : UInt8 → UInt8} (h : PF k f) (hn : k ≤ n) : PF n f := by
  induction n with
  | zero => rw [Nat.le_zero.1 hn] at h; exact h
  | succ n ih =>
    by_cases e : k = n + 1
    · rw [← e]; exact h
    · exact (ih (by omega)).mono
theorem nm_PF (l : Nat) : PF (l + 1) (fun z => nmF 1 z l) := by
  induction l with
  | zero => exact PF.const 1
  | succ l ih => exact ⟨0, _, ih, fun z => by rw [zero_x]; exact mu_comm _ _⟩
/-- a polynomial's numbers -/
theorem PF.coef {k : Nat} {f : UInt8 → UInt8} (h : PF k f) : ∃ c : Nat → UInt8, ∀ z, f z = S k (fun l => mu (c l) (nmF 1 z l)) := by
  induction k generalizing f with
  | zero => exact ⟨fun _ => 0, h⟩
  | succ k ih =>
    obtain ⟨a, g, hg, hz⟩ := h
    obtain ⟨c, hc⟩ := ih hg
    refine ⟨fun l => if l = 0 then a else c (l - 1), fun z => ?_⟩
    rw [S_head, hz z, hc z, mu_S]
    congr 1
    · show a = mu (if (0 : Nat) = 0 then a else _) (nmF 1 z 0)
      rw [if_pos rfl]; exact (mu_one a).symm
    · refine S_congr fun l hl => ?_
      show mu z (mu (c l) (nmF 1 z l)) = mu (if l + 1 = 0 then a else c (l + 1 - 1)) (nmF 1 z (l + 1))
      rw [if_neg (by omega), Nat.add_sub_cancel, nmF, mu_left, mu_comm z]
/-- .. so a word without syndromes is nought with each of them -/
theorem syn_poly {k m : Nat} {z : Nat → UInt8} (h : ∀ l, l < m → synF k m z l = 0) {g : UInt8 → UInt8} (hg : PF m g) : S (k + m) (fun i => mu (mu (z i) (wtF k m i)) (g (pt i))) = 0 := by
  obtain ⟨c, hc⟩ := hg.coef
  have e1 : S (k + m) (fun i => mu (mu (z i) (wtF k m i)) (g (pt i))) = S (k + m) (fun i => S m (fun l => mu (c l) (mu (mu (z i) (wtF k m i)) (nmF 1 (pt i) l)))) :=
    S_congr fun i hi => by rw [hc, mu_S]; exact S_congr fun l hl => mu_left _ _ _
  rw [e1, S_swap]
  refine S_zero fun l hl => ?_
  rw [← mu_S]
  have := h l hl
  unfold synF at this
  rw [this, mu_zero]
/-- the parity points -/
def qp (k n : Nat) : UInt8 := pt (k + n)
theorem wpd_data {k j n : Nat} (hj : j < k) : wpd k j n = PD (qp k) n (pt j) := by
  induction n with
  | zero => rfl
  | succ n ih => rw [wpd_next (by omega), ih, PD, mu_comm]; rfl
theorem wpd_par {k i n : Nat} : wpd k (k + i) n = PE (qp k) i n (pt (k + i)) := by
  induction n with
  | zero => rfl
  | succ n ih =>
    by_cases e : n = i
    · rw [wpd_self (by omega), ih, PE, if_pos e]
    · rw [wpd_next (by omega), ih, PE, if_neg e, mu_comm]; rfl
theorem PD_ne {k j n : Nat} (hj : j < k) (h : k + n ≤ 256) : PD (qp k) n (pt j) ≠ 0 := by rw [← wpd_data hj]; exact wpd_ne h (by omega)
/-- a data shard's weight times all parity points but one's polynomial -/
theorem wt_data {k m j i : Nat} (hj : j < k) (hi : i < m) (h : k + m ≤ 256) : mu (wtF k m j) (PE (qp k) i m (pt j)) = parF k i j := by
  unfold wtF parF
  have hne : pt j ^^^ pt (k + i) ≠ 0 := pt_ne (by omega) (by omega) (by omega)
  have e1 : PD (qp k) m (pt j) = mu (pt j ^^^ pt (k + i)) (PE (qp k) i m (pt j)) := (PE_mul (qp k) hi (pt j)).symm
  have hD := PD_ne (n := m) hj h
  have hE : PE (qp k) i m (pt j) ≠ 0 := fun e => hD (by rw [e1, e, mu_zero])
  rw [wpd_data hj, x_comm (pt (k + i))]
  have h1 := mu_iv hD
  have h2 := mu_iv hne
  -- both are the number whose product with the sum is 1
  have h3 : mu (pt j ^^^ pt (k + i)) (mu (iv (PD (qp k) m (pt j))) (PE (qp k) i m (pt j))) = 1 := by
    rw [mu_left, ← e1, mu_comm]; exact h1
  have h4 := congrArg (mu (iv (pt j ^^^ pt (k + i)))) h3
  rw [← mu_assoc, mu_comm (iv _) (pt j ^^^ _), h2, one_mu, mu_one] at h4
  exact h4
theorem wt_par {k m i : Nat} (hi : i < m) (h : k + m ≤ 256) : mu (wtF k m (k + i)) (PE (qp k) i m (pt (k + i))) = 1 := by
  unfold wtF
  rw [wpd_par, mu_comm]
  exact mu_iv (by rw [← wpd_par]; exact wpd_ne h (by omega))
/-- a polynomial out of its values at the parity points -/
theorem lagrange {k m : Nat} (h : k + m ≤ 256) {g : UInt8 → UInt8} (hg : PF m g) (z : UInt8) : g z = S m (fun i => mu (mu (g (qp k i)) (wtF k m (k + i))) (PE (qp k) i m z)) := by
  have hf : PF m (fun z => g z ^^^ S m (fun i => mu (mu (g (qp k i)) (wtF k m (k + i))) (PE (qp k) i m z))) :=
    hg.add (PF.sum fun i hi => ((PE_deg (qp k) i m).1 hi).smul _)
  have := hf.roots (qp k) (fun i j hi hj hij e => hij (by have := pt_inj (by omega) (by omega) e; omega)) (fun n hn => ?_)
  · exact x_eq_zero.1 (this z)
  · show g (qp k n) ^^^ S m (fun i => mu (mu (g (qp k i)) (wtF k m (k + i))) (PE (qp k) i m (qp k n))) = 0
    rw [S_one hn (fun i hi hne => by rw [PE_other (qp k) hn (fun e => hne e.symm), mu_zero])]
    have e := wt_par (k := k) hn h
    show g (qp k n) ^^^ mu (mu (g (qp k n)) (wtF k m (k + n))) (PE (qp k) n m (pt (k + n))) = 0
    rw [mu_assoc, e, mu_one, x_self]
/-- .. and a word whose parity is that of its data has none -/
theorem par_syn {k m : Nat} {z : Nat → UInt8} (h : k + m ≤ 256) (hz : ∀ i, i < m → z (k + i) = S k (fun j => mu (parF k i j) (z j))) {l : Nat} (hl : l < m) : synF k m z l = 0 := by
  unfold synF
  rw [S_split]
  have hg : PF m (fun z => nmF 1 z l) := (nm_PF l).mono' (by omega)
  have e1 : S k (fun j => mu (mu (z j) (wtF k m j)) (nmF 1 (pt j) l)) = S m (fun i => mu (mu (z (k + i)) (wtF k m (k + i))) (nmF 1 (pt (k + i)) l)) := by
    have a1 : S k (fun j => mu (mu (z j) (wtF k m j)) (nmF 1 (pt j) l)) = S k (fun j => S m (fun i => mu (mu (nmF 1 (pt (k + i)) l) (wtF k m (k + i))) (mu (parF k i j) (z j)))) := S_congr fun j hj => by
      have := lagrange h hg (pt j)
      rw [this, mu_S]
      refine S_congr fun i hi => ?_
      rw [← wt_data hj hi h]
      show mu (mu (z j) (wtF k m j)) (mu (mu (nmF 1 (pt (k + i)) l) (wtF k m (k + i))) (PE (qp k) i m (pt j))) = _
      rw [mu_left, mu_assoc (z j), mu_comm (z j)]
    rw [a1, S_swap]
    refine S_congr fun i hi => ?_
    rw [← mu_S, ← hz i hi]
    simp only [mu_assoc, mu_comm, mu_left]
  rw [e1, x_self]
end Go.Proofs.YtddnfhfangfgeaaGreat.Gf

namespace Go.Proofs.YtddnfhfangfgeaaGreat.Gf
set_option linter.unusedVariables false
set_option linter.unusedSimpArgs false
/-- how many of the first n are so -/
def cnt (p : Nat → Bool) : Nat → Nat
  | 0 => 0
  | n + 1 => cnt p n + (if p n then 1 else 0)
theorem cnt_mono {p q : Nat → Bool} {n : Nat} (h : ∀ i, i < n → p i = true → q i = true) : cnt p n ≤ cnt q n := by
  induction n with
  | zero => exact Nat.le_refl _
  | succ n ih =>
    have h1 := ih fun i hi => h i (by omega)
    rw [cnt, cnt]
    by_cases e : p n = true
    · rw [if_pos e, if_pos (h n (by omega) e)]; omega
    · rw [if_neg e]; omega
theorem cnt_or (p q : Nat → Bool) (n : Nat) : cnt (fun i => p i || q i) n ≤ cnt p n + cnt q n := by
  induction n with
  | zero => exact Nat.le_refl _
  | succ n ih =>
    rw [cnt, cnt, cnt]
    cases p n <;> cases q n <;> simp <;> omega
theorem cnt_le (p : Nat → Bool) (n : Nat) : cnt p n ≤ n := by
  induction n with
  | zero => exact Nat.le_refl _
  | succ n ih => rw [cnt]; split <;> omega
theorem cnt_congr {p q : Nat → Bool} {n : Nat} (h : ∀ i, i < n → p i = q i) : cnt p n = cnt q n := by
  induction n with
  | zero => rfl
  | succ n ih => rw [cnt, cnt, ih fun i hi => h i (by omega), h n (by omega)]
/-- the places, rising -/
def plc (p : Nat → Bool) (n : Nat) : List Nat := (List.range n).filter p
theorem plc_succ (p : Nat → Bool) (n : Nat) : plc p (n + 1) = plc p n ++ (if p n then [n] else []) := by
  unfold plc
  rw [List.range_succ, List.filter_append]
  congr 1
  cases h : p n <;> simp [h]
theorem plc_length (p : Nat → Bool) (n : Nat) : (plc p n).length = cnt p n := by
  induction n with
  | zero => rfl
  | succ n ih => rw [plc_succ, cnt, List.length_append, ih]; congr 1; split <;> rfl
theorem plc_mem {p : Nat → Bool} {n i : Nat} : i ∈ plc p n ↔ i < n ∧ p i = true := by unfold plc; rw [List.mem_filter, List.mem_range]
theorem plc_nodup (p : Nat → Bool) (n : Nat) : (plc p n).Nodup := List.Nodup.sublist List.filter_sublist List.nodup_range
/-- the product of z and the points of some places -/
def prL (z : UInt8) : List Nat → UInt8
  | [] => 1
  | i :: I => mu (z ^^^ pt i) (prL z I)
theorem prL_PF (I : List Nat) : PF (I.length + 1) (fun z => prL z I) := by
  induction I with
  | nil => exact PF.const 1
  | cons i I ih => exact (ih.lin (pt i)).congr fun z => rfl
theorem prL_zero {z : UInt8} {I : List Nat} : prL z I = 0 ↔ ∃ i, i ∈ I ∧ z = pt i := by
  induction I with
  | nil => exact ⟨fun h => absurd (show (1 : UInt8) = 0 from h) (by decide), fun ⟨i, h, _⟩ => by simp at h⟩
  | cons a I ih =>
    rw [prL, mu_eq_zero, ih]
    constructor
    · rintro (h | ⟨i, h1, h2⟩)
      · exact ⟨a, by simp, x_eq_zero.1 h⟩
      · exact ⟨i, by simp [h1], h2⟩
    · rintro ⟨i, h1, h2⟩
      rcases List.mem_cons.1 h1 with e | e
      · subst e; exact Or.inl (x_eq_zero.2 h2)
      · exact Or.inr ⟨i, e, h2⟩
/-- a word of the code -/
def CodeW (k m : Nat) (c : Nat → UInt8) : Prop := ∀ l, l < m → synF k m c l = 0
/-- one that is not nought has more than m numbers but 0 -/
theorem mds {k m : Nat} {c : Nat → UInt8} (h : k + m ≤ 256) (hc : CodeW k m c) (hn : cnt (fun i => decide (c i ≠ 0)) (k + m) ≤ m) : ∀ i, i < k + m → c i = 0 := by
  intro j hj
  by_cases e : c j = 0
  · exact e
  · exfalso
    have hjI : j ∈ plc (fun i => decide (c i ≠ 0)) (k + m) := plc_mem.2 ⟨hj, decide_eq_true e⟩
    obtain ⟨I, hI⟩ : ∃ I, I = (plc (fun i => decide (c i ≠ 0)) (k + m)).erase j := ⟨_, rfl⟩
    have hlen : I.length + 1 ≤ m := by
      rw [hI, List.length_erase_of_mem hjI, plc_length]
      have : 0 < (plc (fun i => decide (c i ≠ 0)) (k + m)).length := List.length_pos_of_mem hjI
      rw [plc_length] at this
      omega
    have hs := syn_poly hc ((prL_PF I).mono' hlen)
    rw [S_one (k := j) hj (fun i hi hne => ?_)] at hs
    · rcases mu_eq_zero.1 hs with h1 | h1
      · rcases mu_eq_zero.1 h1 with h2 | h2
        · exact e h2
        · exact wtF_ne h (by omega) h2
      · obtain ⟨i, h2, h3⟩ := prL_zero.1 h1
        rw [hI] at h2
        have h4 := List.Nodup.mem_erase_iff (plc_nodup (fun i => decide (c i ≠ 0)) (k + m)) (a := i) (b := j)
        obtain ⟨h5, h6⟩ := h4.1 h2
        have := (plc_mem.1 h6).1
        exact h5 (pt_inj (by omega) (by omega) h3).symm
    · show mu (mu (c i) (wtF k m i)) (prL (pt i) I) = 0
      by_cases ei : c i = 0
      · rw [ei, zero_mu, zero_mu]
      · rw [prL_zero.2 ⟨i, ?_, rfl⟩, mu_zero]
        rw [hI]
        exact (List.Nodup.mem_erase_iff (plc_nodup _ _)).2 ⟨hne, plc_mem.2 ⟨hi, decide_eq_true ei⟩⟩
theorem CodeW.add {k m : Nat} {c d : Nat → UInt8} (hc : CodeW k m c) (hd : CodeW k m d) : CodeW k m (fun i => c i ^^^ d i) := fun l hl => by
  rw [synF_add (fun i _ => rfl), hc l hl, hd l hl]; rfl
theorem CodeW.congr {k m : Nat} {c d : Nat → UInt8} (hc : CodeW k m c) (h : ∀ i, i < k + m → d i = c i) : CodeW k m d := fun l hl => by
  rw [synF_congr h]; exact hc l hl
/-- where c and z differ, besides what is missing -/
def wrg (z c : Nat → UInt8) (ms : Nat → Bool) (i : Nat) : Bool := !ms i && decide (c i ≠ z i)
/-- a word of the code near z -/
structure Near (k m : Nat) (z : Nat → UInt8) (ms : Nat → Bool) (c : Nat → UInt8) : Prop where
  code : CodeW k m c
  few : 2 * cnt (wrg z c ms) (k + m) + cnt ms (k + m) ≤ m
/-- there is one alone -/
theorem Near.unique {k m : Nat} {z c d : Nat → UInt8} {ms : Nat → Bool} (h : k + m ≤ 256) (hc : Near k m z ms c) (hd : Near k m z ms d) : ∀ i, i < k + m → c i = d i := by
  have key := mds h (hc.code.add hd.code) (by
    have h1 : cnt (fun i => decide (c i ^^^ d i ≠ 0)) (k + m) ≤ cnt (fun i => (ms i || wrg z c ms i) || wrg z d ms i) (k + m) := cnt_mono fun i hi hne => by
      have hne' : c i ≠ d i := fun e => (of_decide_eq_true hne) (x_eq_zero.2 e)
      cases em : ms i
      · by_cases e1 : c i = z i
        · have e2 : d i ≠ z i := fun e => hne' (e1.trans e.symm)
          simp [wrg, em, e2]
        · simp [wrg, em, e1]
      · simp
    have h2 := cnt_or (fun i => ms i || wrg z c ms i) (wrg z d ms) (k + m)
    have h3 := cnt_or ms (wrg z c ms) (k + m)
    have h4 := hc.few
    have h5 := hd.few
    omega)
  intro i hi
  exact x_eq_zero.1 (key i hi)
end Go.Proofs.YtddnfhfangfgeaaGreat.Gf





namespace Go.Proofs.YtddnfhfangfgeaaGreat.Gf
set_option linter.unusedVariables false
set_option linter.unusedSimpArgs false
open Go.RowKit
theorem info_shard : (Tryz.prog.info? 36).map (fun i => (i.zero, i.size, i.bytes)) = some (some (.slice none 0 0), 1, 24) := by kernel_rfl
theorem take_next {M : List (List UInt8)} {k : Nat} (h : k < M.length) : M.take (k + 1) = M.take k ++ [ro M k] := by
  rw [List.take_add_one, ro_some h]; rfl
end Go.Proofs.YtddnfhfangfgeaaGreat.Gf



namespace Go.Proofs.YtddnfhfangfgeaaGreat.Gf
set_option linter.unusedVariables false
set_option linter.unusedSimpArgs false
open Go.RowKit
/-- the first bytes of a slice -/
theorem Rd.first {w : World} {b off n c k : Nat} {p : List UInt8} (h : Rd w (.slice (some ⟨b, off, none⟩) n c) p) (hk : k ≤ p.length) (h0 : 1 ≤ k) : Rd w (.slice (some ⟨b, off, none⟩) k c) (p.take k) := by
  rcases h with ⟨a, c', e, _⟩ | ⟨b', off', c', h1, h2, h3, h4, h5, h6⟩
  · subst e; simp at hk; omega
  · simp at h2
    obtain ⟨⟨rfl, rfl⟩, rfl, rfl⟩ := h2
    have hl : (p.take k).length = k := by rw [List.length_take]; omega
    refine Or.inr ⟨b, off, c, fun e => by rw [e] at hl; simp at hl; omega, by rw [hl], by omega, h4, h5, fun i hi => ?_⟩
    rw [hl] at hi
    rw [h6 i (by omega), co_take hi]
theorem Rd.place {w : World} {v : Value} {p : List UInt8} (h : Rd w v p) (h0 : 0 < p.length) : ∃ b off c, v = .slice (some ⟨b, off, none⟩) p.length c ∧ p.length ≤ c ∧ c ≤ maxLen := by
  rcases h with ⟨a, c', e, _⟩ | ⟨b', off', c', h1, h2, h3, h4, h5, h6⟩
  · subst e; simp at h0
  · exact ⟨b', off', c', h2, h3, h4⟩
end Go.Proofs.YtddnfhfangfgeaaGreat.Gf

namespace Go.Proofs.YtddnfhfangfgeaaGreat.Gf
set_option linter.unusedVariables false
set_option linter.unusedSimpArgs false
theorem cnt_not (p : Nat → Bool) (n : Nat) : cnt (fun i => !p i) n + cnt p n = n := by
  induction n with
  | zero => rfl
  | succ n ih => rw [cnt, cnt]; cases p n <;> simp <;> omega
end Go.Proofs.YtddnfhfangfgeaaGreat.Gf

namespace Go.Proofs.YtddnfhfangfgeaaGreat.Gf
set_option linter.unusedVariables false
set_option linter.unusedSimpArgs false
open Go.RowKit
theorem OwnI.free {w : World} {base e g n c : Nat} {zs : List Nat} (h : OwnI w base e (.slice (some ⟨g, 0, none⟩) n c) zs) (i : Nat) : w.frozen? ⟨g, i, none⟩ = false := by
  obtain ⟨a, c', e⟩ := h.form
  simp at e
  obtain ⟨_, rfl, _⟩ := e
  exact World.ownsRow.frozenAt h i
theorem OwnI.store {w : World} {base e g n c : Nat} {zs : List Nat} (h : OwnI w base e (.slice (some ⟨g, 0, none⟩) n c) zs) (i x : Nat) : OwnI (w.setCell ⟨g, i, none⟩ (.int .i64 (x : Int))) base e (.slice (some ⟨g, 0, none⟩) n c) (zs.set i x) := by
  obtain ⟨a, c', e⟩ := h.form
  simp at e
  obtain ⟨_, rfl, _⟩ := e
  have := (World.ownsRow.stored h i (.int .i64 (x : Int))).1
  unfold OwnI
  rw [List.length_set, List.map_set]
  exact this
theorem OwnI.later {w w' : World} {base e : Nat} {v : Value} {zs : List Nat} (h : OwnI w base e v zs) (hb : Below w.heap.size w w') : OwnI w' base e v zs := owns_later h hb
end Go.Proofs.YtddnfhfangfgeaaGreat.Gf



