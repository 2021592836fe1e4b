/-
  SLICES OF BYTES IN MEMORY: 'Rd w v p': the slice value v reads, in the world w, as the bytes p; and the same for rows that a call itself has made ('ownsRow').
-/
import Derived.Test.YtehphjapahdalaaGfOwn
import Derived.Test.YtehphjapahdalaaPoMk
import Derived.WalkSpells
import Derived.OpenShut
namespace Go.Proofs.Ytehphjapahdalaa.Gf
set_option linter.unusedVariables false
set_option linter.unusedSimpArgs false
open Go.RowKit

def vb (a : UInt8) : Value := .int .u8 ((a.toNat : Nat) : Int)
def Rd (w : World) (v : Value) (p : List UInt8) : Prop :=
  (∃ ao cap, p = [] ∧ v = .slice ao 0 cap ∧ cap ≤ maxLen ∧ (ao = none → cap = 0)) ∨
  (∃ b off cap, p ≠ [] ∧ v = .slice (some ⟨b, off, none⟩) p.length cap ∧ p.length ≤ cap ∧ cap ≤ maxLen ∧ b < w.heap.size ∧ ∀ i, i < p.length → w.cell? ⟨b, off + i, none⟩ = some (.int .u8 ((co p i).toNat : Nat)))

theorem Rd.below {w w' : World} {v : Value} {p : List UInt8} (h : Rd w v p) (hb : Below w.heap.size w w') : Rd w' v p := by
  rcases h with h | ⟨b, off, cap, h1, h2, h3, h4, h5, h6⟩
  · exact Or.inl h
  · exact Or.inr ⟨b, off, cap, h1, h2, h3, h4, Nat.lt_of_lt_of_le h5 hb.size, fun i hi => (hb.cell (p := ⟨b, off + i, none⟩) h5).trans (h6 i hi)⟩
theorem Rd.drewN {w : World} {v : Value} {p : List UInt8} (h : Rd w v p) (n : Nat) : Rd (w.drewN n) v p := h
theorem Rd.form {w : World} {v : Value} {p : List UInt8} (h : Rd w v p) : ∃ a c, v = .slice a p.length c := by
  rcases h with ⟨a, c, rfl, rfl, _⟩ | ⟨b, off, c, _, rfl, _⟩
  · exact ⟨a, c, rfl⟩
  · exact ⟨_, c, rfl⟩
theorem Rd.len {w : World} {v : Value} {p : List UInt8} (h : Rd w v p) : p.length ≤ maxLen := by
  rcases h with ⟨_, _, h, _⟩ | ⟨_, _, _, _, _, h3, h4, _⟩
  · subst h; exact Nat.zero_le _
  · omega
theorem xor_u8 (x y : UInt8) : bits .xor .u8 ((x.toNat : Nat) : Int) ((y.toNat : Nat) : Int) = (((x ^^^ y).toNat : Nat) : Int) := by
  rw [u8_xor_nat _ _ (u8_lt x) (u8_lt y), UInt8.toNat_xor]
theorem eq_u8 (x y : UInt8) : (((x.toNat : Nat) : Int) == ((y.toNat : Nat) : Int)) = decide (x = y) := by
  rw [Bool.eq_iff_iff, beq_iff_eq, decide_eq_true_eq]
  exact ⟨fun h => u8_ext (by omega), fun h => by rw [h]⟩
theorem ne_u8 (x y : UInt8) : (((x.toNat : Nat) : Int) != ((y.toNat : Nat) : Int)) = decide (x ≠ y) := by
  rw [bne, eq_u8]; by_cases h : x = y <;> simp [h]
theorem eq_u8_zero (x : UInt8) : (((x.toNat : Nat) : Int) == 0) = decide (x = 0) := eq_u8 x 0
theorem ofNat_u8 {x : Nat} (h : x < 256) : ((UInt8.ofNat x).toNat : Nat) = x := by rw [UInt8.toNat_ofNat']; exact Nat.mod_eq_of_lt h

theorem add_at (b off j : Nat) : (⟨b, off, none⟩ : Addr).add j = ⟨b, off + j, none⟩ := by
  unfold Addr.add; split
  · subst j; rfl
  · rfl
/-- The cells of the first k bytes, as the laws on append and copy ask for them. -/
theorem news_of {W : World} {b off k : Nat} {p : List UInt8} (h : ∀ i, i < p.length → W.cell? ⟨b, off + i, none⟩ = some (.int .u8 ((co p i).toNat : Nat))) :
    ∀ j u, ((p.take k).map vb)[j]? = some u → W.cell? ((⟨b, off, none⟩ : Addr).add j) = some u := by
  intro j u hj
  rw [add_at]
  rw [List.getElem?_map] at hj
  by_cases hjk : j < k
  · rw [List.getElem?_take_of_lt hjk] at hj
    by_cases hjp : j < p.length
    · rw [List.getElem?_eq_getElem hjp] at hj
      rw [h j hjp, co_lt hjp]
      simpa [vb] using hj
    · rw [List.getElem?_eq_none (by omega)] at hj; cases hj
  · rw [List.getElem?_eq_none (by rw [List.length_take]; omega)] at hj; cases hj
theorem vb_one (p : List UInt8) : ∀ u ∈ p.map vb, u.oneCell' = true := by
  intro u hu
  obtain ⟨a, _, rfl⟩ := List.mem_map.1 hu
  rfl
theorem cells_alloc {W : World} {b off : Nat} {p : List UInt8} (o : Obj) (hb : b < W.heap.size) (h : ∀ i, i < p.length → W.cell? ⟨b, off + i, none⟩ = some (.int .u8 ((co p i).toNat : Nat))) :
    ∀ i, i < p.length → (W.alloc o).cell? ⟨b, off + i, none⟩ = some (.int .u8 ((co p i).toNat : Nat)) := fun i hi => by
  rw [World.cell?_alloc_past _ _ _ hb]; exact h i hi

/-- A row of the call's own reads as its bytes. -/
theorem Rd.owned {w : World} {base e : Nat} {v : Value} {p : List UInt8} (h : w.ownsRow base e 1 v p.length (p.map vb)) : Rd w v p := by
  obtain ⟨_, ⟨hv, hn⟩ | ⟨g, cap, cur, hv, hg, hh, hc, hm, hs, ht⟩⟩ := h
  · exact Or.inl ⟨none, 0, List.length_eq_zero_iff.1 hn, hv, Nat.zero_le _, fun _ => rfl⟩
  · by_cases hp : p = []
    · subst hp; exact Or.inl ⟨_, cap, rfl, hv, hm, fun h => by cases h⟩
    · refine Or.inr ⟨g, 0, cap, hp, hv, hc, hm, (Array.getElem?_eq_some_iff.1 hh).1, fun i hi => ?_⟩
      have e1 : (p.map vb)[i]? = some (vb (co p i)) := by rw [List.getElem?_map, List.getElem?_eq_getElem hi, co_lt hi]; rfl
      rw [← ht, Nat.mul_one, List.getElem?_take_of_lt hi] at e1
      rw [Nat.zero_add]
      unfold World.cell?
      rw [hh]
      simpa [vb] using e1

theorem ownsRow_base {w : World} {base base' e n : Nat} {v : Value} {xs : List Value} (h : w.ownsRow base e 1 v n xs) (hb : base' ≤ base) : w.ownsRow base' e 1 v n xs := by
  obtain ⟨h0, h | ⟨g, cap, cur, hv, hg, r⟩⟩ := h
  · exact ⟨h0, Or.inl h⟩
  · exact ⟨h0, Or.inr ⟨g, cap, cur, hv, Nat.le_trans hb hg, r⟩⟩
/-- The first k numbers of a function of places. -/
def upto (f : Nat → UInt8) (k : Nat) : List UInt8 := (List.range k).map f
theorem upto_length (f : Nat → UInt8) (k : Nat) : (upto f k).length = k := by simp [upto]
theorem upto_succ (f : Nat → UInt8) (k : Nat) : upto f (k + 1) = upto f k ++ [f k] := by simp [upto, List.range_succ]
theorem co_upto {f : Nat → UInt8} {k : Nat} (h : Fin0 f k) (i : Nat) : co (upto f k) i = f i := by
  by_cases hi : i < k
  · exact co_map_range f hi
  · rw [co_ge (by rw [upto_length]; omega), h i (by omega)]
theorem norm_upto {f : Nat → UInt8} {k n : Nat} (h : Fin0 f k) (hn : Fin0 f n) : norm (upto f k) = mk f n := norm_of hn (co_upto h)
theorem upto_vb_succ (f : Nat → UInt8) (k : Nat) : (upto f (k + 1)).map vb = (upto f k).map vb ++ [.int .u8 (((f k).toNat : Nat) : Int)] := by
  rw [upto_succ, List.map_append]; rfl

/-- Behind 'out = append(out, x)': below the heap's first size nothing has turned. -/
theorem grow_below {w wr w1 : World} {e n : Nat} {v : Value} {xs : List Value} (hbel : Below w.heap.size w wr) {o : Obj} (hown : wr.ownsRow w.heap.size e 1 v n xs) (hgrow : (wr.alloc o).grownBy w1 v.ownBlock) : Below w.heap.size w w1 :=
  (hbel.alloc hbel.size o).grown hgrow (by have := hbel.size; simp; omega) (fun g hg => (hown.lt g hg).1)
/-- What the call owns, behind another call. -/
theorem owns_later {wr w1 : World} {e n : Nat} {v : Value} {xs : List Value} {base : Nat} (h : wr.ownsRow base e 1 v n xs) (hb : Below wr.heap.size wr w1) : w1.ownsRow base e 1 v n xs := by
  obtain ⟨h0, h | ⟨g, cap, cur, hv, hg, hh, r⟩⟩ := h
  · exact ⟨h0, Or.inl h⟩
  · exact ⟨h0, Or.inr ⟨g, cap, cur, hv, hg, by rw [hb.block g (Array.getElem?_eq_some_iff.1 hh).1]; exact hh, r⟩⟩

/-- A slice of bytes that came in, as the frame of a statement's proof tells it. -/
theorem rd_row {w : World} {a : Option Addr} {len cap : Nat} {zs : List Int}
    (h : (a = none ∧ len = 0 ∧ cap = 0 ∧ zs = []) ∨ ∃ x, a = some x ∧ len ≤ cap ∧ cap ≤ maxLen ∧ zs.length = cap ∧ (∀ i, i < zs.length → w.cell? (x.add i) = some (.int .u8 (zs.getD i 0))) ∧ ∀ n ∈ zs, (Lit.int .u8 n).wf = true) :
    ∃ p : List UInt8, len = p.length ∧ Rd w (.slice a len cap) p := by
  rcases h with ⟨rfl, rfl, rfl, rfl⟩ | ⟨x, rfl, hl, hm, hz, hcell, hwz⟩
  · exact ⟨[], rfl, Or.inl ⟨none, 0, rfl, rfl, Nat.zero_le _, fun _ => rfl⟩⟩
  · refine ⟨(zs.take len).map (fun n => UInt8.ofNat n.toNat), by rw [List.length_map, List.length_take]; omega, ?_⟩
    by_cases h0 : len = 0
    · subst h0
      exact Or.inl ⟨_, cap, rfl, rfl, hm, fun h => by cases h⟩
    · obtain ⟨b, off, spot⟩ := x
      have hc := hcell 0 (by omega)
      have hspot : spot = none := by simpa [Addr.add] using World.cell?_spot hc
      subst hspot
      have hlen : ((zs.take len).map (fun n => UInt8.ofNat n.toNat)).length = len := by rw [List.length_map, List.length_take]; omega
      have hbw : b < w.heap.size := by
        have e : w.cell? ⟨b, off, none⟩ = some (.int .u8 (zs.getD 0 0)) := by simpa [Addr.add] using hc
        unfold World.cell? at e
        by_cases hb : b < w.heap.size
        · exact hb
        · rw [Array.getElem?_eq_none (by show w.heap.size ≤ b; omega)] at e; cases e
      refine Or.inr ⟨b, off, cap, fun h => by rw [h] at hlen; simp at hlen; omega, by rw [hlen], by rw [hlen]; exact hl, hm, hbw, fun i hi => ?_⟩
      rw [hlen] at hi
      have e1 := hcell i (by omega)
      rw [add_at] at e1
      rw [e1]
      have hi2 : i < zs.length := by omega
      have e2 : co ((zs.take len).map (fun n => UInt8.ofNat n.toNat)) i = UInt8.ofNat (zs[i]).toNat := by
        rw [co_lt (by rw [hlen]; exact hi)]; simp
      rw [e2]
      have hw := hwz zs[i] (List.getElem_mem hi2)
      have hb := bounds_u8 hw
      rw [ofNat_u8 (by omega)]
      have e3 : zs.getD i 0 = zs[i] := by simp [List.getD, hi2]
      rw [e3]
      congr 2
      omega
theorem rd_lit {w : World} {n : Nat} {cs : Array Value} {e : Nat} (p : List UInt8) (hn : p.length = n) (hs : cs.toList = p.map vb) (hl : n ≤ 1000000) : Rd (w.alloc (.cells cs e)) (.slice (some ⟨w.heap.size, 0, none⟩) n n) p := by
  subst hn
  refine Rd.owned (base := w.heap.size) (e := e) ?_
  rw [← hs]
  exact World.ownsRow_lit w cs p.length (Nat.le_refl _) (by unfold maxLen; omega) (by rw [← Array.length_toList, hs]; simp)
theorem below_lit {w w' : World} (h : Below w.heap.size w w') (o : Obj) : Below w.heap.size w (w'.alloc o) := h.alloc h.size o

end Go.Proofs.Ytehphjapahdalaa.Gf
