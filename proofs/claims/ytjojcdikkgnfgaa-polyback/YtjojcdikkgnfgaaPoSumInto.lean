/-
  THE PROGRAM's 'add' BY CONTRACT: terms are added, place by place, to a part of a row of the caller's own; nothing but that row turns.
-/
import Derived.Test.YtjojcdikkgnfgaaPoTop
import Derived.Deep.RegionWith
namespace Go.Proofs.Ytjojcdikkgnfgaa.Gf
set_option linter.unusedVariables false
set_option linter.unusedSimpArgs false
open Go.RowKit

/-- Nothing but the block g has turned. -/
structure Only (g : Nat) (w w' : World) : Prop where
  os : w'.os = w.os
  tape : w'.tape = w.tape
  output : w'.output = w.output
  size : w'.heap.size = w.heap.size
  block : ∀ k, k ≠ g → w'.heap[k]? = w.heap[k]?
theorem Only.refl (g : Nat) (w : World) : Only g w w := ⟨rfl, rfl, rfl, rfl, fun _ _ => rfl⟩
theorem Only.trans {g : Nat} {a b c : World} (h : Only g a b) (k : Only g b c) : Only g a c :=
  ⟨k.os.trans h.os, k.tape.trans h.tape, k.output.trans h.output, k.size.trans h.size, fun i hi => (k.block i hi).trans (h.block i hi)⟩
theorem Only.drew {g : Nat} {a w : World} (h : Only g a w) : Only g a w.drew := ⟨h.os, h.tape, h.output, h.size, h.block⟩
theorem Only.setCell {g : Nat} {a w : World} (h : Only g a w) (j : Nat) (u : Value) : Only g a (w.setCell ⟨g, j, none⟩ u) := by
  have b := (Below.refl 0 w).setCell (p := ⟨g, j, none⟩) (Nat.zero_le _) u
  exact ⟨b.os.trans h.os, b.tape.trans h.tape, b.output.trans h.output, by rw [← h.size]; simp, fun k hk => (Below.heap_setCell w ⟨g, j, none⟩ u k hk).trans (h.block k hk)⟩
theorem Only.below {g B : Nat} {w w' : World} (h : Only g w w') (hB : B ≤ g) : Below B w w' :=
  ⟨h.os, h.tape, h.output, by rw [h.size]; exact Nat.le_refl _, fun k hk => h.block k (by omega)⟩
theorem Only.cell {g : Nat} {w w' : World} (h : Only g w w') {p : Addr} (hp : p.block ≠ g) : w'.cell? p = w.cell? p := World.cell?_of_block (w := w) (h.block p.block hp)
/-- a slice that does not lie in the block g -/
def Apart (g : Nat) (v : Value) : Prop := ∀ x n c, v = .slice (some x) n c → n = 0 ∨ x.block ≠ g
theorem Rd.only {g : Nat} {w w' : World} {v : Value} {p : List UInt8} (h : Rd w v p) (ha : Apart g v) (ho : Only g w w') : Rd w' v p := by
  rcases h with h | ⟨b, off, cap, h1, h2, h3, h4, h5, h6⟩
  · exact Or.inl h
  · have hb : b ≠ g := by
      rcases ha _ _ _ h2 with e | e
      · exact absurd (List.length_eq_zero_iff.1 e) h1
      · exact e
    exact Or.inr ⟨b, off, cap, h1, h2, h3, h4, by rw [ho.size]; exact h5, fun i hi => (ho.cell (p := ⟨b, off + i, none⟩) hb).trans (h6 i hi)⟩
theorem Rd.apart {w : World} {v : Value} {p : List UInt8} {g : Nat} (h : Rd w v p) (hg : w.heap.size ≤ g) : Apart g v := by
  intro x n c e
  rcases h with ⟨a, c', _, e2, _⟩ | ⟨b, off, cap, h1, h2, h3, h4, h5, h6⟩
  · subst e2; simp at e; exact Or.inl e.2.1.symm
  · subst h2; simp at e; obtain ⟨rfl, rfl, rfl⟩ := e; exact Or.inr (by show b ≠ g; omega)
theorem RowF.only {g g' : Nat} {w w' : World} {base e L C : Nat} {f : Nat → UInt8} (h : RowF w base e g L C f) (hg : g ≠ g') (o : Only g' w w') : RowF w' base e g L C f := by
  obtain ⟨h0, h | ⟨g2, cap, cur, hv, hgg, hh, r⟩⟩ := h
  · exact ⟨h0, Or.inl h⟩
  · refine ⟨h0, Or.inr ⟨g2, cap, cur, hv, hgg, ?_, r⟩⟩
    have eg : g2 = g := by simp at hv; exact hv.1.symm
    rw [o.block g2 (by rw [eg]; exact hg)]
    exact hh

/-- q added to f, o places higher -/
def addAt (f : Nat → UInt8) (o : Nat) (q : List UInt8) (t : Nat) : UInt8 := f t ^^^ (if o ≤ t then co q (t - o) else 0)
/-- the first k numbers of it -/
def addK (f : Nat → UInt8) (o : Nat) (q : List UInt8) (k t : Nat) : UInt8 := f t ^^^ (if o ≤ t ∧ t < o + k then co q (t - o) else 0)
theorem addK_zero (f : Nat → UInt8) (o : Nat) (q : List UInt8) : addK f o q 0 = f := by
  funext t; unfold addK; rw [if_neg (by omega), x_zero]
theorem addK_whole (f : Nat → UInt8) (o : Nat) (q : List UInt8) : addK f o q q.length = addAt f o q := by
  funext t; unfold addK addAt
  by_cases h : o ≤ t
  · rw [if_pos h]
    by_cases h2 : t < o + q.length
    · rw [if_pos ⟨h, h2⟩]
    · rw [if_neg (by omega), co_ge (by omega)]
  · rw [if_neg h, if_neg (by omega)]
theorem addK_step (f : Nat → UInt8) (o : Nat) (q : List UInt8) (k t : Nat) : addK f o q (k + 1) t = if t = o + k then addK f o q k (o + k) ^^^ co q k else addK f o q k t := by
  by_cases e : t = o + k
  · subst e
    rw [if_pos rfl]
    unfold addK
    rw [if_pos (by omega), if_neg (by omega), x_zero, show o + k - o = k by omega]
  · rw [if_neg e]
    unfold addK
    by_cases h : o ≤ t ∧ t < o + k
    · rw [if_pos h, if_pos (by omega)]
    · rw [if_neg h, if_neg (by omega)]
def addAll (f : Nat → UInt8) (o : Nat) (ts : List (Value × List UInt8)) : Nat → UInt8 := ts.foldl (fun f x => addAt f o x.2) f
theorem addAll_step (f : Nat → UInt8) (o : Nat) (ts : List (Value × List UInt8)) {j : Nat} {x : Value × List UInt8} (h : ts[j]? = some x) : addAll f o (ts.take (j + 1)) = addAt (addAll f o (ts.take j)) o x.2 := by
  unfold addAll
  rw [List.take_add_one, h]
  simp

set_option maxRecDepth 100000 in
set_option maxHeartbeats 2000000 in
theorem sum_into {w : World} {base u g L C o n c tb tc : Nat} {f : Nat → UInt8} (ts : List (Value × List UInt8)) (hR : RowF w base u g L C f) (ho : o + n ≤ L) (hn : n ≤ 1000000) (hL : L ≤ 1000000) (htb : tb ≠ g) (htl : ts.length ≤ 1000)
    (hts : ∀ j x, ts[j]? = some x → w.cell? ⟨tb, j, none⟩ = some x.1 ∧ Rd w x.1 x.2 ∧ Apart g x.1 ∧ x.2.length ≤ n) :
    Calls Try.prog 29 #[.slice (some ⟨g, o, none⟩) n c, .slice (some ⟨tb, 0, none⟩) ts.length tc] w fun e w' => e = .returned (.tuple #[]) ∧ Only g w w' ∧ RowF w' base u g L C (addAll f o ts) := by
  go_enter Try.func29, Try.ntmps29
  go_wp2
  go_loopw [9] (fun i wr => ∃ j : Nat, j ≤ ts.length ∧ i = .int .i64 j ∧ Only g w wr ∧ RowF wr base u g L C (addAll f o (ts.take j))) (fun i _ => ts.length - (intOf i).toNat)
  case atStart => exact ⟨0, by omega, rfl, Only.refl _ _, hR⟩
  case round =>
    obtain ⟨j, hj, rfl, hO, hRj⟩ := hrel
    clear hR
    by_cases hlt : j < ts.length
    · obtain ⟨x, hx⟩ : ∃ x, ts[j]? = some x := ⟨_, List.getElem?_eq_getElem hlt⟩
      obtain ⟨c0, hrd, hap, hxl⟩ := hts j x hx
      have HS := addAll_step f o ts hx
      have HS' : Hid _ := HS
      obtain ⟨v, q⟩ := x
      clear HS hts hx
      have c1 : wr.cell? ⟨tb, j, none⟩ = some v := (hO.cell (p := ⟨tb, j, none⟩) htb).trans c0
      clear c0
      obtain ⟨fj, hfj⟩ : ∃ fj, fj = addAll f o (ts.take j) := ⟨_, rfl⟩
      rw [← hfj] at hRj HS'
      clear hfj
      have R0 : RowF wr base u g L C (addK fj o q 0) := by rw [addK_zero]; exact hRj
      clear hRj
      simp only at hrd hap hxl HS'
      rcases hrd with ⟨a, cc, rfl, rfl, hc, hnn⟩ | ⟨b, off, cc, hq0, rfl, h1, h2, h3, hqc⟩
      · go_wp2
        go_loopw [15] (fun i w2 => i = .int .i64 0 ∧ w2 = wr) (fun _ _ => 0)
        case atStart => exact ⟨rfl, rfl⟩
        case round =>
          obtain ⟨rfl, rfl⟩ := hrel
          go_wp2
          go_roundw
          case rel => exact ⟨j + 1, by omega, by go_num, hO, by rw [HS'.out, ← addK_whole]; exact R0⟩
          case measure => simp [intOf]; omega
      · have hb : b ≠ g := by
          rcases hap _ _ _ rfl with e | e
          · exact absurd (List.length_eq_zero_iff.1 e) hq0
          · exact e
        clear hap
        go_wp2
        go_loopw [15] (fun i w2 => ∃ l : Nat, l ≤ q.length ∧ i = .int .i64 l ∧ Only g w w2 ∧ RowF w2 base u g L C (addK fj o q l)) (fun i _ => q.length - (intOf i).toNat)
        case atStart => exact ⟨0, by omega, rfl, hO, R0⟩
        case round =>
          obtain ⟨l, hll, rfl, hO2, hR2⟩ := hrel
          clear R0 hO c1
          by_cases hl3 : l < q.length
          · obtain ⟨t, ht⟩ : ∃ t, Hid (t = o + l) := ⟨_, rfl⟩
            have ht' := ht.out
            have htl2 : t < L := by omega
            have k1 := hR2.cell htl2
            have f1 := hR2.unfrozen t
            have k3 := (hO2.cell (p := ⟨b, off + l, none⟩) hb).trans (hqc l hl3)
            have E := xor_u8 (addK fj o q l t) (co q l)
            have N1 : Hid (RowF (wr.setCell ⟨g, t, none⟩ (.int .u8 (((addK fj o q l t).toNat ^^^ (co q l).toNat : Nat) : Int))) base u g L C (addK fj o q (l + 1))) := by
              rw [← UInt8.toNat_xor]; exact hR2.store htl2 _ (by rw [ht']; exact addK_step fj o q l)
            have N2 : Hid (Only g w (wr.setCell ⟨g, t, none⟩ (.int .u8 (((addK fj o q l t).toNat ^^^ (co q l).toNat : Nat) : Int)))) := hO2.setCell t _
            rw [ht'] at k1 f1 E N1 N2
            clear hqc hR2 hO2 ht ht' htl2
            go_wp2
            go_region
            go_wp2
            go_roundw
            case rel => exact ⟨l + 1, by omega, by go_num, N2.out.drew, N1.out.drew⟩
            case measure => simp [intOf]; omega
          · have e : l = q.length := by omega
            subst e
            clear hqc
            go_wp2
            go_roundw
            case rel => exact ⟨j + 1, by omega, by go_num, hO2, by rw [HS'.out, ← addK_whole]; exact hR2⟩
            case measure => simp [intOf]; omega
    · have e : j = ts.length := by omega
      subst e
      rw [List.take_length] at hRj
      clear hts
      go_wp2
      go_end0
      exact ⟨rfl, hO, hRj⟩

/-- the same where the list of terms has just been made -/
theorem sum_terms {w : World} {base u g L C o n c k kc : Nat} {f : Nat → UInt8} {tt : TypeId} {cs : Array Value} (ts : List (Value × List UInt8)) (hR : RowF w base u g L C f) (ho : o + n ≤ L) (hL : L ≤ 1000000) (hcs : cs.toList = ts.map (·.1)) (hk : k = ts.length) (htl : ts.length ≤ 1000)
    (hts : ∀ x ∈ ts, Rd w x.1 x.2 ∧ Apart g x.1 ∧ x.2.length ≤ n) :
    Calls Try.prog 29 #[.slice (some ⟨g, o, none⟩) n c, .slice (some ⟨w.heap.size, 0, none⟩) k kc] (w.alloc (.cells cs tt)) fun e w' => e = .returned (.tuple #[]) ∧ Only g (w.alloc (.cells cs tt)) w' ∧ RowF w' base u g L C (addAll f o ts) := by
  subst hk
  have hB : Below w.heap.size w (w.alloc (.cells cs tt)) := (Below.refl _ _).alloc (Nat.le_refl _) _
  have hg := hR.lt
  refine sum_into ts (hR.later hB) ho (by omega) hL (by omega) htl fun j x hx => ?_
  obtain ⟨h1, h2, h3⟩ := hts x (List.mem_of_getElem? hx)
  refine ⟨?_, h1.below hB, h2, h3⟩
  rw [World.cell?_alloc_new, ← Array.getElem?_toList, hcs, List.getElem?_map, hx]
  rfl

end Go.Proofs.Ytjojcdikkgnfgaa.Gf
