/-
  WORLDS IN WHICH ONE BLOCK MAY HAVE TURNED AND OTHERS MAY HAVE BEEN LAID; matrices of the call's own, row by row. No program's function is named here.
-/
import Derived.Test.YtehphjapahdalaaMxRd
import Derived.Test.YtehphjapahdalaaPoInfo
import Derived.Laws.CopyOwn
namespace Go.Proofs.Ytehphjapahdalaa.Gf
set_option linter.unusedVariables false
set_option linter.unusedSimpArgs false
open Go.RowKit

/-- Of what was there nothing but the block g has turned. -/
structure Turn (g : Nat) (w w' : World) : Prop where
  os : w'.os = w.os
  tape : w'.tape = w.tape
  output : w'.output = w.output
  size : w.heap.size ≤ w'.heap.size
  block : ∀ k, k < w.heap.size → k ≠ g → w'.heap[k]? = w.heap[k]?
theorem Turn.refl (g : Nat) (w : World) : Turn g w w := ⟨rfl, rfl, rfl, Nat.le_refl _, fun _ _ _ => rfl⟩
theorem Turn.trans {g : Nat} {a b c : World} (h : Turn g a b) (k : Turn g b c) : Turn g a c :=
  ⟨k.os.trans h.os, k.tape.trans h.tape, k.output.trans h.output, Nat.le_trans h.size k.size, fun i hi hg => (k.block i (Nat.lt_of_lt_of_le hi h.size) hg).trans (h.block i hi hg)⟩
theorem Below.turn {w w' : World} (h : Below w.heap.size w w') (g : Nat) : Turn g w w' := ⟨h.os, h.tape, h.output, h.size, fun k hk _ => h.block k hk⟩
theorem Only.turn {g : Nat} {w w' : World} (h : Only g w w') : Turn g w w' := ⟨h.os, h.tape, h.output, by rw [h.size]; exact Nat.le_refl _, fun k _ hk => h.block k hk⟩
theorem Turn.below {g B : Nat} {w w' : World} (h : Turn g w w') (hg : B ≤ g) (hB : B ≤ w.heap.size) : Below B w w' :=
  ⟨h.os, h.tape, h.output, h.size, fun k hk => h.block k (by omega) (by omega)⟩
theorem Turn.cell {g : Nat} {w w' : World} (h : Turn g w w') {p : Addr} (hs : p.block < w.heap.size) (hp : p.block ≠ g) : w'.cell? p = w.cell? p := World.cell?_of_block (w := w) (h.block p.block hs hp)
theorem Turn.frozen {g : Nat} {w w' : World} (h : Turn g w w') {p : Addr} (hs : p.block < w.heap.size) (hp : p.block ≠ g) : w'.frozen? p = w.frozen? p := World.frozen?_of_block (w := w) (h.block p.block hs hp)
theorem Box.turn {g b : Nat} {w w' : World} {r c : Int} {vs : Value} (h : Box w b r c vs) (hs : b < w.heap.size) (hb : b ≠ g) (o : Turn g w w') : Box w' b r c vs :=
  ⟨(o.cell (p := ⟨b, 0, none⟩) hs hb).trans h.c0, (o.cell (p := ⟨b, 1, none⟩) hs hb).trans h.c1, (o.cell (p := ⟨b, 2, none⟩) hs hb).trans h.c2⟩
theorem Free.turn {g b : Nat} {w w' : World} (h : Free w b) (hs : b < w.heap.size) (hb : b ≠ g) (o : Turn g w w') : Free w' b :=
  ⟨(o.frozen (p := ⟨b, 0, none⟩) hs hb).trans h.f0, (o.frozen (p := ⟨b, 1, none⟩) hs hb).trans h.f1, (o.frozen (p := ⟨b, 2, none⟩) hs hb).trans h.f2⟩
theorem FieldAt.turn {g b : Nat} {w w' : World} (h : FieldAt w b) (hb : b ≠ g) (o : Turn g w w') : FieldAt w' b :=
  ⟨fun i hi => (o.cell (p := ⟨b, i, none⟩) h.lt hb).trans (h.powers i hi), fun i hi => (o.cell (p := ⟨b, 255 + i, none⟩) h.lt hb).trans (h.places i hi), Nat.lt_of_lt_of_le h.lt o.size⟩
theorem Rd.turn {g : Nat} {w w' : World} {v : Value} {p : List UInt8} (h : Rd w v p) (ha : Apart g v) (ho : Turn g w w') : Rd w' v p := by
  rcases h with h | ⟨b, off, cap, h1, h2, h3, h4, h5, h6⟩
  · exact Or.inl h
  · have hb : b ≠ g := by
      rcases ha _ _ _ h2 with e | e
      · exact absurd (List.length_eq_zero_iff.1 e) h1
      · exact e
    exact Or.inr ⟨b, off, cap, h1, h2, h3, h4, Nat.lt_of_lt_of_le h5 ho.size, fun i hi => (ho.cell (p := ⟨b, off + i, none⟩) h5 hb).trans (h6 i hi)⟩
theorem RdI.turn {g : Nat} {w w' : World} {v : Value} {zs : List Int} (h : RdI w v zs) (ha : Apart g v) (ho : Turn g w w') : RdI w' v zs := by
  rcases h with h | ⟨b, off, cap, h1, h2, h3, h5, h6⟩
  · exact Or.inl h
  · have hb : b ≠ g := by
      rcases ha _ _ _ h2 with e | e
      · exact absurd (List.length_eq_zero_iff.1 e) h1
      · exact e
    exact Or.inr ⟨b, off, cap, h1, h2, h3, Nat.lt_of_lt_of_le h5 ho.size, fun i hi => (ho.cell (p := ⟨b, off + i, none⟩) h5 hb).trans (h6 i hi)⟩
theorem RdI.apart {w : World} {v : Value} {zs : List Int} {g : Nat} (h : RdI w v zs) (hg : w.heap.size ≤ g) : Apart g v := by
  intro x n c e
  rcases h with ⟨a, c', _, e2⟩ | ⟨b, off, cap, h1, h2, h3, h5, h6⟩
  · subst e2; simp at e; exact Or.inl e.2.1.symm
  · subst h2; simp at e; obtain ⟨rfl, rfl, rfl⟩ := e; exact Or.inr (by show b ≠ g; omega)
theorem RowF.turn {g g' : Nat} {w w' : World} {base e L C : Nat} {f : Nat → UInt8} (h : RowF w base e g L C f) (hg : g ≠ g') (o : Turn g' w w') : RowF w' base e g L C f := by
  obtain ⟨h0, h | ⟨g2, cap, cur, hv, hgg, hh, r⟩⟩ := h
  · exact ⟨h0, Or.inl h⟩
  · refine ⟨h0, Or.inr ⟨g2, cap, cur, hv, hgg, ?_, r⟩⟩
    have eg : g2 = g := by simp at hv; exact hv.1.symm
    have hlt : g2 < w.heap.size := (Array.getElem?_eq_some_iff.1 hh).1
    rw [o.block g2 hlt (by rw [eg]; exact hg)]
    exact hh

/-- the numbers of a matrix, one row behind the other -/
def pl (c : Nat) (F : Mx) (t : Nat) : UInt8 := F (t / c) (t % c)
theorem pl_at {c i j : Nat} (F : Mx) (hj : j < c) : pl c F (i * c + j) = F i j := by unfold pl; rw [place_div hj, place_mod hj]
theorem pl_flat (r c : Nat) (F : Mx) : upto (pl c F) (r * c) = flat r c F := rfl
theorem pl_congr {r c : Nat} {F G : Mx} (h : ∀ i j, i < r → j < c → F i j = G i j) : ∀ t, t < r * c → pl c F t = pl c G t := by
  intro t ht
  have hc : 0 < c := by
    rcases Nat.eq_zero_or_pos c with e | e
    · rw [e, Nat.mul_zero] at ht; omega
    · exact e
  exact h _ _ ((Nat.div_lt_iff_lt_mul hc).2 ht) (Nat.mod_lt _ hc)
theorem row_iff {c i t : Nat} (hc : 0 < c) : (i * c ≤ t ∧ t < i * c + c) ↔ t / c = i := by
  constructor
  · rintro ⟨h1, h2⟩
    obtain ⟨j, rfl⟩ := Nat.exists_eq_add_of_le h1
    exact place_div (by omega)
  · rintro rfl
    have h1 := Nat.div_add_mod t c
    have h2 := Nat.mod_lt t hc
    rw [Nat.mul_comm] at h1
    omega
theorem row_sub {c t : Nat} : t - t / c * c = t % c := by
  have h1 := Nat.div_add_mod t c
  rw [Nat.mul_comm] at h1
  omega
/-- n numbers from the place o on, told anew -/
def putAt (f : Nat → UInt8) (o n : Nat) (q : Nat → UInt8) (t : Nat) : UInt8 := if o ≤ t ∧ t < o + n then q (t - o) else f t
theorem putAt_zero (f : Nat → UInt8) (o : Nat) (q : Nat → UInt8) : putAt f o 0 q = f := by funext t; exact if_neg (by omega)
theorem putAt_step (f : Nat → UInt8) (o k : Nat) (q : Nat → UInt8) (t : Nat) : putAt f o (k + 1) q t = if t = o + k then q k else putAt f o k q t := by
  unfold putAt
  by_cases e : t = o + k
  · subst e; rw [if_pos (by omega), if_pos rfl, show o + k - o = k by omega]
  · rw [if_neg e]
    by_cases h : o ≤ t ∧ t < o + k
    · rw [if_pos h, if_pos (by omega)]
    · rw [if_neg h, if_neg (by omega)]
theorem putAt_out {f : Nat → UInt8} {o n : Nat} {q : Nat → UInt8} {t : Nat} (h : t < o ∨ o + n ≤ t) : putAt f o n q t = f t := if_neg (by omega)
theorem putAt_in {f : Nat → UInt8} {o n : Nat} {q : Nat → UInt8} {k : Nat} (h : k < n) : putAt f o n q (o + k) = q k := by
  unfold putAt; rw [if_pos (by omega), show o + k - o = k by omega]
theorem putAt_congr {f : Nat → UInt8} {o n : Nat} {q q' : Nat → UInt8} (h : ∀ k, k < n → q k = q' k) : putAt f o n q = putAt f o n q' := by
  funext t; unfold putAt
  by_cases e : o ≤ t ∧ t < o + n
  · rw [if_pos e, if_pos e]; exact h _ (by omega)
  · rw [if_neg e, if_neg e]
/-- a row told anew -/
theorem pl_put {r c i : Nat} (F : Mx) (q : Nat → UInt8) : ∀ t, t < r * c → putAt (pl c F) (i * c) c q t = pl c (fun k j => if k = i then q j else F k j) t := by
  intro t ht
  have hc : 0 < c := by
    rcases Nat.eq_zero_or_pos c with e | e
    · rw [e, Nat.mul_zero] at ht; omega
    · exact e
  show putAt (pl c F) (i * c) c q t = if t / c = i then q (t % c) else F (t / c) (t % c)
  unfold putAt
  by_cases e : t / c = i
  · rw [if_pos ((row_iff hc).2 e), if_pos e]
    subst e; rw [row_sub]
  · rw [if_neg (fun h => e ((row_iff hc).1 h)), if_neg e]
    rfl

/-- the row's cells, as they lie -/
theorem RowF.heap {w : World} {base e g L C : Nat} {f : Nat → UInt8} (h : RowF w base e g L C f) (hLC : L = C) : w.heap[g]? = some (.cells ((upto f L).map vb).toArray e (0, 0)) ∧ C ≤ maxLen := by
  obtain ⟨h0, ⟨hv, _⟩ | ⟨g2, cap, cur, hv, hgg, hh, h1, h2, h3, h4⟩⟩ := h
  · simp at hv
  · have e1 : g2 = g := by simp at hv; exact hv.1.symm
    have e2 : cap = C := by simp at hv; exact (by first | exact hv.symm | exact hv.2.symm)
    clear hv
    subst e1 e2 hLC
    refine ⟨?_, h2⟩
    rw [hh, ← h4, Nat.mul_one]
    congr 2
    apply Array.ext'
    have : cur.toList.length = L := by rw [Array.length_toList, h3, Nat.mul_one]
    rw [List.toList_toArray, ← this, List.take_length]
theorem RowF.of_heap {w : World} {base e g L : Nat} {f : Nat → UInt8} (hg : base ≤ g) (hm : L ≤ maxLen) (h : w.heap[g]? = some (.cells ((upto f L).map vb).toArray e (0, 0))) : RowF w base e g L L f := by
  have hl : ((upto f L).map vb).length = L := by rw [List.length_map, upto_length]
  refine ⟨by rw [hl, Nat.mul_one], Or.inr ⟨g, L, _, rfl, hg, h, Nat.le_refl _, hm, by rw [List.size_toArray, hl, Nat.mul_one], ?_⟩⟩
  rw [Nat.mul_one, List.toList_toArray]
  exact List.take_of_length_le (by rw [hl]; exact Nat.le_refl _)
theorem co_drop (p : List UInt8) (n i : Nat) : co (p.drop n) i = co p (n + i) := by unfold co; rw [List.getElem?_drop]
theorem co_upto_lt {f : Nat → UInt8} {n i : Nat} (h : i < n) : co (upto f n) i = f i := co_map_range f h
theorem splice_upto {f : Nat → UInt8} {L o : Nat} {p : List UInt8} (h : o + p.length ≤ L) : splice ((upto f L).map vb) o (p.map vb) = (upto (putAt f o p.length (co p)) L).map vb := by
  unfold splice
  rw [← List.map_take, ← List.map_drop, ← List.map_append, ← List.map_append]
  congr 1
  refine co_ext ?_ ?_
  · simp [upto]; omega
  · intro i hi
    rw [List.length_append, List.length_append, List.length_take, List.length_drop, upto_length, List.length_map] at hi
    rw [co_upto_lt (f := putAt f o p.length (co p)) (show i < L by omega)]
    by_cases h1 : i < o
    · rw [putAt_out (Or.inl h1), co_append_lt (by rw [List.length_take, upto_length]; omega), co_take h1, co_upto_lt (by omega)]
    · by_cases h2 : i < o + p.length
      · obtain ⟨k, rfl⟩ := Nat.exists_eq_add_of_le (show o ≤ i by omega)
        rw [putAt_in (show k < p.length by omega), co_append_ge (by rw [List.length_take, upto_length]; omega), List.length_take, upto_length]
        rw [co_append_lt (by omega), show o + k - min o L = k by omega]
      · rw [putAt_out (Or.inr (by omega)), co_append_ge (by rw [List.length_take, upto_length]; omega), List.length_take, upto_length, co_append_ge (by omega), co_drop, List.length_map]
        rw [show o + p.length + (i - min o L - p.length) = i by omega, co_upto_lt (by omega)]

theorem only_setRow (w : World) (g : Nat) (cs : Array Value) : Only g w (w.setRow g cs) := ⟨rfl, rfl, rfl, by simp [World.setRow], fun k hk => setRow_other w g k cs hk⟩
/-- 'copy' into a part of a row of the call's own, as a step of a region that draws its order. -/
theorem step_copy_rd {P : Program} {ops : Array Oper} {o : Oper} {a : Act} {w : World} {K : Act → World → Prop} {Q : Exit → Act → World → Prop} {E : Prop} (hgd : o.guard = none) (d s : Operand) (dT sT : TypeId)
    (ho : o.op = .call { callee := .builtin .copy, args := #[d, s], argTypes := #[dT, sT] }) (elem : TypeId) (hu : P.underlying dT = some (.slice elem)) (hsz : (P.info? elem).map (·.size) = some 1)
    {g off n dl dCap : Nat} {va : Value} {p : List UInt8} {base e L : Nat} {f : Nat → UInt8} (hd : a.eval d = .slice (some ⟨g, off, none⟩) dl dCap) (hs : a.eval s = va) (hr : Rd w va p) (hn : p.length = n) (hdl : n ≤ dl) (hR : RowF w base e g L L f) (hl : off + n ≤ L)
    (h : ∀ w', Only g w w' → RowF w' base e g L L (putAt f off n (co p)) → K (a.put o.dst (goInt n)) w') :
    if Region.wanted o (yielded ops a.tmps) = true then Oper.wp P o a w K Q else E := by
  have hw : Region.wanted o (yielded ops a.tmps) = true := by simp [Region.wanted, hgd]
  rw [if_pos hw]
  subst hn
  obtain ⟨hg, hm⟩ := hR.heap rfl
  have hlt := hR.lt
  rcases hr with ⟨ao, cap, rfl, rfl, _⟩ | ⟨b, so, cap, hp0, rfl, h1, h2, h3, hpc⟩
  · have hrun := run_copy_none (P := P) w dT sT o.type elem (some ⟨g, off, none⟩) ao dl dCap 0 cap hu hsz (Nat.zero_min _)
    unfold Oper.wp
    simp [execOp, ho, resolve, invoke, builtin, hd, hs, hrun, Result.andThen]
    exact h w (Only.refl _ _) (by rw [List.length_nil, putAt_zero]; exact hR)
  · have hrun := run_copy_row (P := P) w dT sT o.type elem g off dl dCap ⟨b, so, none⟩ p.length cap ((upto f L).map vb).toArray e (p.map vb) hu hsz hg (by rw [List.length_map]; exact (Nat.min_eq_left hdl).symm) (by have := news_of (k := p.length) hpc; rwa [List.take_length] at this) (by simp [upto_length]; exact hl) (vb_one p)
    unfold Oper.wp
    simp [execOp, ho, resolve, invoke, builtin, hd, hs, hrun, Result.andThen]
    refine h _ (only_setRow _ _ _) (RowF.of_heap hlt.1 hm ?_)
    rw [← splice_upto hl]
    simpa [splice] using setRow_heap w g _ _ e _ hg

end Go.Proofs.Ytehphjapahdalaa.Gf
