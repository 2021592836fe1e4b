/- TEXTS JOINED: PoInfo, MxOwn, MxStep, SsOwn, PoSame, BkRd, OuS, KeMakes. -/
import Derived.Test.YtlbachgbeefhcabTome1
import Derived.Test.YtlbachgbeefhcabTome2
import Derived.Laws.CopyOwn
import Derived.Laws.AppendOwnNone
import Derived.Deep.AppendLies
import Derived.Deep.RegionHeld3
/-
  THE BYTE's ROW OF THE PROGRAM's TABLE OF TYPES.
-/

namespace Go.Proofs.Ytlbachgbeefhcab.Gf
theorem info_u8 : (Try.prog.info? 5).map (fun i => (i.zero, i.size, i.bytes)) = some (some (.int .u8 0), 1, 1) := by kernel_rfl
end Go.Proofs.Ytlbachgbeefhcab.Gf

/-
  WORLDS IN WHICH ONE BLOCK MAY HAVE TURNED AND OTHERS MAY HAVE BEEN LAID; matrices of the call's own, row by row. No program's function is named here.
-/


namespace Go.Proofs.Ytlbachgbeefhcab.Gf
set_option linter.unusedVariables false
set_option linter.unusedSimpArgs false
open Go.RowKit

/-- Of what was there nothing but the block g has turned. -/
structure Turn (g : Nat) (w w' : World) : Prop where
  os : w'.os = w.os
  tape : w'.tape = w.tape
  output : w'.output = w.output
  size : w.heap.size ≤ w'.heap.size
  block : ∀ k, k < w.heap.size → k ≠ g → w'.heap[k]? = w.heap[k]?
theorem Turn.refl (g : Nat) (w : World) : Turn g w w := ⟨rfl, rfl, rfl, Nat.le_refl _, fun _ _ _ => rfl⟩
theorem Turn.trans {g : Nat} {a b c : World} (h : Turn g a b) (k : Turn g b c) : Turn g a c :=
  ⟨k.os.trans h.os, k.tape.trans h.tape, k.output.trans h.output, Nat.le_trans h.size k.size, fun i hi hg => (k.block i (Nat.lt_of_lt_of_le hi h.size) hg).trans (h.block i hi hg)⟩
theorem Below.turn {w w' : World} (h : Below w.heap.size w w') (g : Nat) : Turn g w w' := ⟨h.os, h.tape, h.output, h.size, fun k hk _ => h.block k hk⟩
theorem Only.turn {g : Nat} {w w' : World} (h : Only g w w') : Turn g w w' := ⟨h.os, h.tape, h.output, by rw [h.size]; exact Nat.le_refl _, fun k _ hk => h.block k hk⟩
theorem Turn.below {g B : Nat} {w w' : World} (h : Turn g w w') (hg : B ≤ g) (hB : B ≤ w.heap.size) : Below B w w' :=
  ⟨h.os, h.tape, h.output, h.size, fun k hk => h.block k (by omega) (by omega)⟩
theorem Turn.cell {g : Nat} {w w' : World} (h : Turn g w w') {p : Addr} (hs : p.block < w.heap.size) (hp : p.block ≠ g) : w'.cell? p = w.cell? p := World.cell?_of_block (w := w) (h.block p.block hs hp)
theorem Turn.frozen {g : Nat} {w w' : World} (h : Turn g w w') {p : Addr} (hs : p.block < w.heap.size) (hp : p.block ≠ g) : w'.frozen? p = w.frozen? p := World.frozen?_of_block (w := w) (h.block p.block hs hp)
theorem Box.turn {g b : Nat} {w w' : World} {r c : Int} {vs : Value} (h : Box w b r c vs) (hs : b < w.heap.size) (hb : b ≠ g) (o : Turn g w w') : Box w' b r c vs :=
  ⟨(o.cell (p := ⟨b, 0, none⟩) hs hb).trans h.c0, (o.cell (p := ⟨b, 1, none⟩) hs hb).trans h.c1, (o.cell (p := ⟨b, 2, none⟩) hs hb).trans h.c2⟩
theorem Free.turn {g b : Nat} {w w' : World} (h : Free w b) (hs : b < w.heap.size) (hb : b ≠ g) (o : Turn g w w') : Free w' b :=
  ⟨(o.frozen (p := ⟨b, 0, none⟩) hs hb).trans h.f0, (o.frozen (p := ⟨b, 1, none⟩) hs hb).trans h.f1, (o.frozen (p := ⟨b, 2, none⟩) hs hb).trans h.f2⟩
theorem FieldAt.turn {g b : Nat} {w w' : World} (h : FieldAt w b) (hb : b ≠ g) (o : Turn g w w') : FieldAt w' b :=
  ⟨fun i hi => (o.cell (p := ⟨b, i, none⟩) h.lt hb).trans (h.powers i hi), fun i hi => (o.cell (p := ⟨b, 255 + i, none⟩) h.lt hb).trans (h.places i hi), Nat.lt_of_lt_of_le h.lt o.size⟩
theorem Rd.turn {g : Nat} {w w' : World} {v : Value} {p : List UInt8} (h : Rd w v p) (ha : Apart g v) (ho : Turn g w w') : Rd w' v p := by
  rcases h with h | ⟨b, off, cap, h1, h2, h3, h4, h5, h6⟩
  · exact Or.inl h
  · have hb : b ≠ g := by
      rcases ha _ _ _ h2 with e | e
      · exact absurd (List.length_eq_zero_iff.1 e) h1
      · exact e
    exact Or.inr ⟨b, off, cap, h1, h2, h3, h4, Nat.lt_of_lt_of_le h5 ho.size, fun i hi => (ho.cell (p := ⟨b, off + i, none⟩) h5 hb).trans (h6 i hi)⟩
theorem RdI.turn {g : Nat} {w w' : World} {v : Value} {zs : List Int} (h : RdI w v zs) (ha : Apart g v) (ho : Turn g w w') : RdI w' v zs := by
  rcases h with h | ⟨b, off, cap, h1, h2, h3, h5, h6⟩
  · exact Or.inl h
  · have hb : b ≠ g := by
      rcases ha _ _ _ h2 with e | e
      · exact absurd (List.length_eq_zero_iff.1 e) h1
      · exact e
    exact Or.inr ⟨b, off, cap, h1, h2, h3, Nat.lt_of_lt_of_le h5 ho.size, fun i hi => (ho.cell (p := ⟨b, off + i, none⟩) h5 hb).trans (h6 i hi)⟩
theorem RdI.apart {w : World} {v : Value} {zs : List Int} {g : Nat} (h : RdI w v zs) (hg : w.heap.size ≤ g) : Apart g v := by
  intro x n c e
  rcases h with ⟨a, c', _, e2⟩ | ⟨b, off, cap, h1, h2, h3, h5, h6⟩
  · subst e2; simp at e; exact Or.inl e.2.1.symm
  · subst h2; simp at e; obtain ⟨rfl, rfl, rfl⟩ := e; exact Or.inr (by show b ≠ g; omega)
theorem RowF.turn {g g' : Nat} {w w' : World} {base e L C : Nat} {f : Nat → UInt8} (h : RowF w base e g L C f) (hg : g ≠ g') (o : Turn g' w w') : RowF w' base e g L C f := by
  obtain ⟨h0, h | ⟨g2, cap, cur, hv, hgg, hh, r⟩⟩ := h
  · exact ⟨h0, Or.inl h⟩
  · refine ⟨h0, Or.inr ⟨g2, cap, cur, hv, hgg, ?_, r⟩⟩
    have eg : g2 = g := by simp at hv; exact hv.1.symm
    have hlt : g2 < w.heap.size := (Array.getElem?_eq_some_iff.1 hh).1
    rw [o.block g2 hlt (by rw [eg]; exact hg)]
    exact hh

/-- the numbers of a matrix, one row behind the other -/
def pl (c : Nat) (F : Mx) (t : Nat) : UInt8 := F (t / c) (t % c)
theorem pl_at {c i j : Nat} (F : Mx) (hj : j < c) : pl c F (i * c + j) = F i j := by unfold pl; rw [place_div hj, place_mod hj]
theorem pl_flat (r c : Nat) (F : Mx) : upto (pl c F) (r * c) = flat r c F := rfl
theorem pl_congr {r c : Nat} {F G : Mx} (h : ∀ i j, i < r → j < c → F i j = G i j) : ∀ t, t < r * c → pl c F t = pl c G t := by
  intro t ht
  have hc : 0 < c := by
    rcases Nat.eq_zero_or_pos c with e | e
    · rw [e, Nat.mul_zero] at ht; omega
    · exact e
  exact h _ _ ((Nat.div_lt_iff_lt_mul hc).2 ht) (Nat.mod_lt _ hc)
theorem row_iff {c i t : Nat} (hc : 0 < c) : (i * c ≤ t ∧ t < i * c + c) ↔ t / c = i := by
  constructor
  · rintro ⟨h1, h2⟩
    obtain ⟨j, rfl⟩ := Nat.exists_eq_add_of_le h1
    exact place_div (by omega)
  · rintro rfl
    have h1 := Nat.div_add_mod t c
    have h2 := Nat.mod_lt t hc
    rw [Nat.mul_comm] at h1
    omega
theorem row_sub {c t : Nat} : t - t / c * c = t % c := by
  have h1 := Nat.div_add_mod t c
  rw [Nat.mul_comm] at h1
  omega
/-- n numbers from the place o on, told anew -/
def putAt (f : Nat → UInt8) (o n : Nat) (q : Nat → UInt8) (t : Nat) : UInt8 := if o ≤ t ∧ t < o + n then q (t - o) else f t
theorem putAt_zero (f : Nat → UInt8) (o : Nat) (q : Nat → UInt8) : putAt f o 0 q = f := by funext t; exact if_neg (by omega)
theorem putAt_step (f : Nat → UInt8) (o k : Nat) (q : Nat → UInt8) (t : Nat) : putAt f o (k + 1) q t = if t = o + k then q k else putAt f o k q t := by
  unfold putAt
  by_cases e : t = o + k
  · subst e; rw [if_pos (by omega), if_pos rfl, show o + k - o = k by omega]
  · rw [if_neg e]
    by_cases h : o ≤ t ∧ t < o + k
    · rw [if_pos h, if_pos (by omega)]
    · rw [if_neg h, if_neg (by omega)]
theorem putAt_out {f : Nat → UInt8} {o n : Nat} {q : Nat → UInt8} {t : Nat} (h : t < o ∨ o + n ≤ t) : putAt f o n q t = f t := if_neg (by omega)
theorem putAt_in {f : Nat → UInt8} {o n : Nat} {q : Nat → UInt8} {k : Nat} (h : k < n) : putAt f o n q (o + k) = q k := by
  unfold putAt; rw [if_pos (by omega), show o + k - o = k by omega]
theorem putAt_congr {f : Nat → UInt8} {o n : Nat} {q q' : Nat → UInt8} (h : ∀ k, k < n → q k = q' k) : putAt f o n q = putAt f o n q' := by
  funext t; unfold putAt
  by_cases e : o ≤ t ∧ t < o + n
  · rw [if_pos e, if_pos e]; exact h _ (by omega)
  · rw [if_neg e, if_neg e]
/-- a row told anew -/
theorem pl_put {r c i : Nat} (F : Mx) (q : Nat → UInt8) : ∀ t, t < r * c → putAt (pl c F) (i * c) c q t = pl c (fun k j => if k = i then q j else F k j) t := by
  intro t ht
  have hc : 0 < c := by
    rcases Nat.eq_zero_or_pos c with e | e
    · rw [e, Nat.mul_zero] at ht; omega
    · exact e
  show putAt (pl c F) (i * c) c q t = if t / c = i then q (t % c) else F (t / c) (t % c)
  unfold putAt
  by_cases e : t / c = i
  · rw [if_pos ((row_iff hc).2 e), if_pos e]
    subst e; rw [row_sub]
  · rw [if_neg (fun h => e ((row_iff hc).1 h)), if_neg e]
    rfl

/-- the row's cells, as they lie -/
theorem RowF.heap {w : World} {base e g L C : Nat} {f : Nat → UInt8} (h : RowF w base e g L C f) (hLC : L = C) : w.heap[g]? = some (.cells ((upto f L).map vb).toArray e (0, 0)) ∧ C ≤ maxLen := by
  obtain ⟨h0, ⟨hv, _⟩ | ⟨g2, cap, cur, hv, hgg, hh, h1, h2, h3, h4⟩⟩ := h
  · simp at hv
  · have e1 : g2 = g := by simp at hv; exact hv.1.symm
    have e2 : cap = C := by simp at hv; exact (by first | exact hv.symm | exact hv.2.symm)
    clear hv
    subst e1 e2 hLC
    refine ⟨?_, h2⟩
    rw [hh, ← h4, Nat.mul_one]
    congr 2
    apply Array.ext'
    have : cur.toList.length = L := by rw [Array.length_toList, h3, Nat.mul_one]
    rw [List.toList_toArray, ← this, List.take_length]
theorem RowF.of_heap {w : World} {base e g L : Nat} {f : Nat → UInt8} (hg : base ≤ g) (hm : L ≤ maxLen) (h : w.heap[g]? = some (.cells ((upto f L).map vb).toArray e (0, 0))) : RowF w base e g L L f := by
  have hl : ((upto f L).map vb).length = L := by rw [List.length_map, upto_length]
  refine ⟨by rw [hl, Nat.mul_one], Or.inr ⟨g, L, _, rfl, hg, h, Nat.le_refl _, hm, by rw [List.size_toArray, hl, Nat.mul_one], ?_⟩⟩
  rw [Nat.mul_one, List.toList_toArray]
  exact List.take_of_length_le (by rw [hl]; exact Nat.le_refl _)
theorem co_drop (p : List UInt8) (n i : Nat) : co (p.drop n) i = co p (n + i) := by unfold co; rw [List.getElem?_drop]
theorem co_upto_lt {f : Nat → UInt8} {n i : Nat} (h : i < n) : co (upto f n) i = f i := co_map_range f h
theorem splice_upto {f : Nat → UInt8} {L o : Nat} {p : List UInt8} (h : o + p.length ≤ L) : splice ((upto f L).map vb) o (p.map vb) = (upto (putAt f o p.length (co p)) L).map vb := by
  unfold splice
  rw [← List.map_take, ← List.map_drop, ← List.map_append, ← List.map_append]
  congr 1
  refine co_ext ?_ ?_
  · simp [upto]; omega
  · intro i hi
    rw [List.length_append, List.length_append, List.length_take, List.length_drop, upto_length, List.length_map] at hi
    rw [co_upto_lt (f := putAt f o p.length (co p)) (show i < L by omega)]
    by_cases h1 : i < o
    · rw [putAt_out (Or.inl h1), co_append_lt (by rw [List.length_take, upto_length]; omega), co_take h1, co_upto_lt (by omega)]
    · by_cases h2 : i < o + p.length
      · obtain ⟨k, rfl⟩ := Nat.exists_eq_add_of_le (show o ≤ i by omega)
        rw [putAt_in (show k < p.length by omega), co_append_ge (by rw [List.length_take, upto_length]; omega), List.length_take, upto_length]
        rw [co_append_lt (by omega), show o + k - min o L = k by omega]
      · rw [putAt_out (Or.inr (by omega)), co_append_ge (by rw [List.length_take, upto_length]; omega), List.length_take, upto_length, co_append_ge (by omega), co_drop, List.length_map]
        rw [show o + p.length + (i - min o L - p.length) = i by omega, co_upto_lt (by omega)]

theorem only_setRow (w : World) (g : Nat) (cs : Array Value) : Only g w (w.setRow g cs) := ⟨rfl, rfl, rfl, by simp [World.setRow], fun k hk => setRow_other w g k cs hk⟩
/-- 'copy' into a part of a row of the call's own, as a step of a region that draws its order. -/
theorem step_copy_rd {P : Program} {ops : Array Oper} {o : Oper} {a : Act} {w : World} {K : Act → World → Prop} {Q : Exit → Act → World → Prop} {E : Prop} (hgd : o.guard = none) (d s : Operand) (dT sT : TypeId)
    (ho : o.op = .call { callee := .builtin .copy, args := #[d, s], argTypes := #[dT, sT] }) (elem : TypeId) (hu : P.underlying dT = some (.slice elem)) (hsz : (P.info? elem).map (·.size) = some 1)
    {g off n dl dCap : Nat} {va : Value} {p : List UInt8} {base e L : Nat} {f : Nat → UInt8} (hd : a.eval d = .slice (some ⟨g, off, none⟩) dl dCap) (hs : a.eval s = va) (hr : Rd w va p) (hn : p.length = n) (hdl : n ≤ dl) (hR : RowF w base e g L L f) (hl : off + n ≤ L)
    (h : ∀ w', Only g w w' → RowF w' base e g L L (putAt f off n (co p)) → K (a.put o.dst (goInt n)) w') :
    if Region.wanted o (yielded ops a.tmps) = true then Oper.wp P o a w K Q else E := by
  have hw : Region.wanted o (yielded ops a.tmps) = true := by simp [Region.wanted, hgd]
  rw [if_pos hw]
  subst hn
  obtain ⟨hg, hm⟩ := hR.heap rfl
  have hlt := hR.lt
  rcases hr with ⟨ao, cap, rfl, rfl, _⟩ | ⟨b, so, cap, hp0, rfl, h1, h2, h3, hpc⟩
  · have hrun := run_copy_none (P := P) w dT sT o.type elem (some ⟨g, off, none⟩) ao dl dCap 0 cap hu hsz (Nat.zero_min _)
    unfold Oper.wp
    simp [execOp, ho, resolve, invoke, builtin, hd, hs, hrun, Result.andThen]
    exact h w (Only.refl _ _) (by rw [List.length_nil, putAt_zero]; exact hR)
  · have hrun := run_copy_row (P := P) w dT sT o.type elem g off dl dCap ⟨b, so, none⟩ p.length cap ((upto f L).map vb).toArray e (p.map vb) hu hsz hg (by rw [List.length_map]; exact (Nat.min_eq_left hdl).symm) (by have := news_of (k := p.length) hpc; rwa [List.take_length] at this) (by simp [upto_length]; exact hl) (vb_one p)
    unfold Oper.wp
    simp [execOp, ho, resolve, invoke, builtin, hd, hs, hrun, Result.andThen]
    refine h _ (only_setRow _ _ _) (RowF.of_heap hlt.1 hm ?_)
    rw [← splice_upto hl]
    simpa [splice] using setRow_heap w g _ _ e _ hg

end Go.Proofs.Ytlbachgbeefhcab.Gf

/-
  A LAW ON A BUILTIN AT A STEP OF A REGION THAT DRAWS ITS ORDER: 'append(s, p...)', s a row of the call's own, p whatever slice of bytes. Made of the library's laws on append; no program's function is named here.
-/



namespace Go.Proofs.Ytlbachgbeefhcab.Gf
set_option linter.unusedVariables false
set_option linter.unusedSimpArgs false
open Go.RowKit

theorem owns_form {w : World} {base e n : Nat} {v : Value} {xs : List Value} (h : w.ownsRow base e 1 v n xs) : ∃ a c, v = .slice a n c := by
  obtain ⟨_, ⟨hv, hn⟩ | ⟨g, cap, cur, hv, _⟩⟩ := h
  · subst hn; exact ⟨_, _, hv⟩
  · exact ⟨_, _, hv⟩
theorem run_append_rd {P : Program} (w : World) (t ty : TypeId) (base : Nat) (e : TypeId) (i : TypeInfo) (ht : P.underlying t = some (.slice e)) (hi : P.info? e = some i) (hz : i.zero = some (.int .u8 0)) (hsize : i.size = 1) (hby : i.bytes = 1)
    (v : Value) (n : Nat) (xs : List Value) (hown : w.ownsRow base e 1 v n xs) (va : Value) (p : List UInt8) (hr : Rd w va p) (hl : n + p.length ≤ 1000000) (hbase : base ≤ w.heap.size) :
    ∃ v' w', (Builtin.append_ #[t, t] ty #[v, va]).run P w = .ok v' w' ∧ w'.ownsRow base e 1 v' (n + p.length) (xs ++ p.map vb) ∧ w.grownBy w' v.ownBlock := by
  rcases hr with ⟨ao, cap, rfl, rfl, hc, hn⟩ | ⟨b, off, cap, hp0, rfl, h1, h2, h3, hpc⟩
  · rcases ao with _ | ad
    · have := hn rfl
      subst this
      exact ⟨v, w, run_append_owned_none (P := P) (w := w) base t ty e i 1 ht hi v n xs hown, by simpa using hown, World.grownBy.refl _ _⟩
    · obtain ⟨v', w', hr, h2, h3, _⟩ := run_append_own_at (P := P) w base t ty e i (.int .u8 0) 1 1 ht hi hz hsize hby rfl (by decide) v n xs hown ad 0 cap [] rfl (by intro j u hj; simp at hj) (by intro u hu; simp at hu) (by unfold maxLen; omega) (by omega) hbase
      exact ⟨v', w', hr, by simpa using h2, h3⟩
  · obtain ⟨v', w', hr, h2, h3, _⟩ := run_append_own_at (P := P) w base t ty e i (.int .u8 0) 1 1 ht hi hz hsize hby rfl (by decide) v n xs hown ⟨b, off, none⟩ p.length cap ((p.take p.length).map vb) (by simp) (news_of hpc) (vb_one _) (by unfold maxLen; omega) (by omega) hbase
    exact ⟨v', w', hr, by simpa using h2, h3⟩
theorem step_append_rd {P : Program} {w : World} {ops : Array Oper} {o : Oper} {a : Act} {K : Act → World → Prop} {Q : Exit → Act → World → Prop} {E : Prop} (hgd : o.guard = none) (s x : Operand) (t : TypeId)
    (ho : o.op = .call { callee := .builtin .append, args := #[s, x], argTypes := #[t, t] })
    (base : Nat) (e : TypeId) (i : TypeInfo) (ht : P.underlying t = some (.slice e)) (hi : P.info? e = some i) (hz : i.zero = some (.int .u8 0)) (hsize : i.size = 1) (hby : i.bytes = 1)
    (v : Value) (n : Nat) (xs : List Value) (hs : a.eval s = v) (hown : w.ownsRow base e 1 v n xs) (va : Value) (p : List UInt8) (hx : a.eval x = va) (hr : Rd w va p) (hl : n + p.length ≤ 1000000) (hbase : base ≤ w.heap.size)
    (h : ∀ v' w', w'.ownsRow base e 1 v' (n + p.length) (xs ++ p.map vb) → w.grownBy w' v.ownBlock → K (a.put o.dst v') w') :
    if Region.wanted o (yielded ops a.tmps) = true then Oper.wp P o a w K Q else E := by
  have hw : Region.wanted o (yielded ops a.tmps) = true := by simp [Region.wanted, hgd]
  rw [if_pos hw]
  obtain ⟨v', w', hrun, h2, h3⟩ := run_append_rd w t o.type base e i ht hi hz hsize hby v n xs hown va p hr hl hbase
  unfold Oper.wp execOp
  simp only [ho, resolve, invoke, builtin, Sem.run_bind, Sem.run_pure, Result.andThen_ok, List.map_toArray, List.map_cons, List.map_nil, hs, hx, hrun]
  exact h v' w' h2 h3

end Go.Proofs.Ytlbachgbeefhcab.Gf

/-
  SLICES OF SLICES OF BYTES THAT A CALL ITSELF MAKES: a row of slices, each of which is a row of bytes of the call's own, in blocks that are unlike. No program's function is named here.
-/

namespace Go.Proofs.Ytlbachgbeefhcab.Gf
set_option linter.unusedVariables false
set_option linter.unusedSimpArgs false
open Go.RowKit

/-- 'append(s, p...)', s a row of bytes of the call's own, p whatever slice of bytes: and where the row lies then. -/
theorem run_append_rd2 {P : Program} (w : World) (t ty : TypeId) (base : Nat) (e : TypeId) (i : TypeInfo) (ht : P.underlying t = some (.slice e)) (hi : P.info? e = some i) (hz : i.zero = some (.int .u8 0)) (hsize : i.size = 1) (hby : i.bytes = 1)
    (v : Value) (n : Nat) (xs : List Value) (hown : w.ownsRow base e 1 v n xs) (va : Value) (p : List UInt8) (hr : Rd w va p) (hl : n + p.length ≤ 1000000) (hbase : base ≤ w.heap.size) :
    ∃ v' w', (Builtin.append_ #[t, t] ty #[v, va]).run P w = .ok v' w' ∧ w'.ownsRow base e 1 v' (n + p.length) (xs ++ p.map vb) ∧ w.grownBy w' v.ownBlock ∧ (v'.ownBlock = v.ownBlock ∨ v'.ownBlock = some w.heap.size) := by
  rcases hr with ⟨ao, cap, rfl, rfl, hc, hn⟩ | ⟨b, off, cap, hp0, rfl, h1, h2, h3, hpc⟩
  · rcases ao with _ | ad
    · have := hn rfl
      subst this
      exact ⟨v, w, run_append_owned_none (P := P) (w := w) base t ty e i 1 ht hi v n xs hown, by simpa using hown, World.grownBy.refl _ _, Or.inl rfl⟩
    · obtain ⟨v', w', hr, h2, h3, _, h5⟩ := run_append_own_at (P := P) w base t ty e i (.int .u8 0) 1 1 ht hi hz hsize hby rfl (by decide) v n xs hown ad 0 cap [] rfl (by intro j u hj; simp at hj) (by intro u hu; simp at hu) (by unfold maxLen; omega) (by omega) hbase
      exact ⟨v', w', hr, by simpa using h2, h3, h5⟩
  · obtain ⟨v', w', hr, h2, h3, _, h5⟩ := run_append_own_at (P := P) w base t ty e i (.int .u8 0) 1 1 ht hi hz hsize hby rfl (by decide) v n xs hown ⟨b, off, none⟩ p.length cap ((p.take p.length).map vb) (by simp) (news_of hpc) (vb_one _) (by unfold maxLen; omega) (by omega) hbase
    exact ⟨v', w', hr, by simpa using h2, h3, h5⟩
theorem wpList_append_rd2 {P : Program} (w : World) {ops : Array Oper} {rest : List Oper} {o : Oper} {a : Act} {Q : Exit → Act → World → Prop} (hgd : o.guard = none) (s x : Operand) (t : TypeId)
    (ho : o.op = .call { callee := .builtin .append, args := #[s, x], argTypes := #[t, t] })
    (base : Nat) (e : TypeId) (i : TypeInfo) (ht : P.underlying t = some (.slice e)) (hi : P.info? e = some i) (hz : i.zero = some (.int .u8 0)) (hsize : i.size = 1) (hby : i.bytes = 1)
    (v : Value) (n : Nat) (xs : List Value) (hs : a.eval s = v) (hown : w.ownsRow base e 1 v n xs) (va : Value) (p : List UInt8) (hx : a.eval x = va) (hr : Rd w va p) (hl : n + p.length ≤ 1000000) (hbase : base ≤ w.heap.size)
    (h : ∀ v' w', w'.ownsRow base e 1 v' (n + p.length) (xs ++ p.map vb) → w.grownBy w' v.ownBlock → (v'.ownBlock = v.ownBlock ∨ v'.ownBlock = some w.heap.size) → wpList P ops Q rest (a.put o.dst v') w') : wpList P ops Q (o :: rest) a w := by
  refine wpList_plain hgd fun K hK => ?_
  obtain ⟨v', w', hrun, h2, h3, h4⟩ := run_append_rd2 w t o.type base e i ht hi hz hsize hby v n xs hown va p hr hl hbase
  unfold Oper.wp execOp
  simp only [ho, resolve, invoke, builtin, Sem.run_bind, Sem.run_pure, Result.andThen_ok, List.map_toArray, List.map_cons, List.map_nil, hs, hx, hrun]
  exact hK _ _ (h v' w' h2 h3 h4)
/-- 'append(s, x)' on a row of slices of the call's own, x one slice, laid as a list of one. -/
theorem wpList_append_one {P : Program} (w : World) {ops : Array Oper} {rest : List Oper} {o : Oper} {a : Act} {Q : Exit → Act → World → Prop} (hgd : o.guard = none) (s x : Operand) (t : TypeId)
    (ho : o.op = .call { callee := .builtin .append, args := #[s, x], argTypes := #[t, t] })
    (base : Nat) (e : TypeId) (i : TypeInfo) (ht : P.underlying t = some (.slice e)) (hi : P.info? e = some i) (hz : i.zero = some (.slice none 0 0)) (hsize : i.size = 1) (hby : i.bytes = 24)
    (v : Value) (n : Nat) (xs : List Value) (hs : a.eval s = v) (hown : w.ownsRow base e 1 v n xs) (b c : Nat) (u : Value) (hx : a.eval x = .slice (some ⟨b, 0, none⟩) 1 c) (hr : w.cell? ⟨b, 0, none⟩ = some u) (hu : u.oneCell' = true) (hl : n ≤ 100000) (hbase : base ≤ w.heap.size)
    (h : ∀ v' w', w'.ownsRow base e 1 v' (n + 1) (xs ++ [u]) → w.grownBy w' v.ownBlock → (v'.ownBlock = v.ownBlock ∨ v'.ownBlock = some w.heap.size) → wpList P ops Q rest (a.put o.dst v') w') : wpList P ops Q (o :: rest) a w := by
  refine wpList_plain hgd fun K hK => ?_
  obtain ⟨v', w', hrun, h2, h3, _, h5⟩ := run_append_own_at (P := P) w base t o.type e i (.slice none 0 0) 1 24 ht hi hz hsize hby rfl (by decide) v n xs hown ⟨b, 0, none⟩ 1 c [u] rfl (by intro j y hj; rw [add_at, Nat.zero_add]; rcases j with _ | j <;> simp at hj; subst hj; exact hr) (by intro y hy; simp at hy; rw [hy]; exact hu) (by unfold maxLen; omega) (by omega) hbase
  unfold Oper.wp execOp
  simp only [ho, resolve, invoke, builtin, Sem.run_bind, Sem.run_pure, Result.andThen_ok, List.map_toArray, List.map_cons, List.map_nil, hs, hx, hrun]
  exact hK _ _ (h v' w' h2 h3 h5)

def OwnP (w : World) (base u : Nat) (x : Value) (p : List UInt8) : Prop := w.ownsRow base u 1 x p.length (p.map vb)
theorem OwnP.kept {w w' : World} {base u : Nat} {x : Value} {p : List UInt8} (h : OwnP w base u x p) {r : Option Nat} (hg : w.grownBy w' r) (hne : x.ownBlock = none ∨ x.ownBlock ≠ r) : OwnP w' base u x p := World.ownsRow.kept h hg hne
theorem OwnP.alloc {w : World} {base u : Nat} {x : Value} {p : List UInt8} (h : OwnP w base u x p) (o : Obj) : OwnP (w.alloc o) base u x p := World.ownsRow.alloc h o
theorem OwnP.one {w : World} {base u : Nat} {x : Value} {p : List UInt8} (h : OwnP w base u x p) : x.oneCell' = true := by
  obtain ⟨a, c, rfl⟩ := owns_form h
  rfl
theorem OwnP.lt {w : World} {base u : Nat} {x : Value} {p : List UInt8} (h : OwnP w base u x p) {k : Nat} (hk : x.ownBlock = some k) : base ≤ k ∧ k < w.heap.size := World.ownsRow.lt h k hk
/-- rows of the call's own in a row of slices of its own -/
structure RowsO (w : World) (base u : Nat) (v : Value) (vals : List Value) (row : Nat → List UInt8) : Prop where
  own : ∀ (i : Nat) (x : Value), vals[i]? = some x → OwnP w base u x (row i)
  diff : ∀ (i j : Nat) (x y : Value), vals[i]? = some x → vals[j]? = some y → i ≠ j → x.ownBlock = none ∨ x.ownBlock ≠ y.ownBlock
  out : ∀ (i : Nat) (x : Value), vals[i]? = some x → x.ownBlock = none ∨ x.ownBlock ≠ v.ownBlock
theorem RowsO.nil (w : World) (base u : Nat) (v : Value) (row : Nat → List UInt8) : RowsO w base u v [] row :=
  ⟨fun i x h => by simp at h, fun i j x y h => by simp at h, fun i x h => by simp at h⟩
theorem block_apart {x : Value} {s : Nat} {r : Option Nat} (h : ∀ k, x.ownBlock = some k → k < s) (hr : ∀ k, r = some k → s ≤ k) : x.ownBlock = none ∨ x.ownBlock ≠ r := by
  cases hx : x.ownBlock with
  | none => exact Or.inl rfl
  | some k =>
    refine Or.inr fun e => ?_
    have h1 := h k hx
    have h2 := hr k e.symm
    omega
theorem block_apart' {x : Value} {s : Nat} {r : Option Nat} (h : ∀ k, x.ownBlock = some k → s ≤ k) (hr : ∀ k, r = some k → k < s) : x.ownBlock = none ∨ x.ownBlock ≠ r := by
  cases hx : x.ownBlock with
  | none => exact Or.inl rfl
  | some k =>
    refine Or.inr fun e => ?_
    have h1 := h k hx
    have h2 := hr k e.symm
    omega
/-- one row more: laid in a block of its own, then appended -/
theorem RowsO.push {wr w1 w2 : World} {base u bt : Nat} {v v' x : Value} {vals : List Value} {row : Nat → List UInt8} {o o' : Obj} (h : RowsO wr base u v vals row) (hv : wr.ownsRow base bt 1 v vals.length vals)
    (g1 : (wr.alloc o).grownBy w1 (some wr.heap.size)) (hx : OwnP w1 base u x (row vals.length)) (hb1 : ∀ k, x.ownBlock = some k → wr.heap.size ≤ k)
    (g2 : (w1.alloc o').grownBy w2 v.ownBlock) (hb2 : v'.ownBlock = v.ownBlock ∨ v'.ownBlock = some (w1.alloc o').heap.size) : RowsO w2 base u v' (vals ++ [x]) row := by
  have s1 : wr.heap.size + 1 ≤ w1.heap.size := by have := g1.size; simpa using this
  have old : ∀ (i : Nat) (y : Value), vals[i]? = some y → ∀ k, y.ownBlock = some k → k < wr.heap.size := fun i y hy k hk => ((h.own i y hy).lt hk).2
  have vlt : ∀ k, v.ownBlock = some k → k < wr.heap.size := fun k hk => (World.ownsRow.lt hv k hk).2
  have xlt : ∀ k, x.ownBlock = some k → k < w1.heap.size := fun k hk => (hx.lt hk).2
  have keep : ∀ i y, vals[i]? = some y → OwnP w2 base u y (row i) := fun i y hy =>
    ((((h.own i y hy).alloc o).kept g1 (block_apart (old i y hy) (fun k e => by cases e; exact Nat.le_refl _))).alloc o').kept g2 (h.out i y hy)
  have xkeep : OwnP w2 base u x (row vals.length) := (hx.alloc o').kept g2 (block_apart' hb1 vlt)
  have at_end : ∀ i y, (vals ++ [x])[i]? = some y → (vals[i]? = some y ∧ i < vals.length) ∨ (i = vals.length ∧ y = x) := fun i y hy => by
    by_cases hi : i < vals.length
    · rw [List.getElem?_append_left hi] at hy; exact Or.inl ⟨hy, hi⟩
    · rw [List.getElem?_append_right (by omega)] at hy
      have : i - vals.length = 0 := by
        rcases Nat.eq_zero_or_pos (i - vals.length) with e | e
        · exact e
        · rw [List.getElem?_eq_none (by simp; omega)] at hy; cases hy
      rw [this] at hy
      simp at hy
      exact Or.inr ⟨by omega, hy.symm⟩
  have vout : ∀ y : Value, (∀ k, y.ownBlock = some k → k < w1.heap.size) → (y.ownBlock = none ∨ y.ownBlock ≠ v.ownBlock) → (y.ownBlock = none ∨ y.ownBlock ≠ v'.ownBlock) := fun y hy ho => by
    rcases hb2 with e | e
    · rw [e]; exact ho
    · refine block_apart hy (fun k hk => ?_)
      rw [e] at hk; simp at hk; omega
  refine ⟨fun i y hy => ?_, fun i j y z hy hz hij => ?_, fun i y hy => ?_⟩
  · rcases at_end i y hy with ⟨e, _⟩ | ⟨rfl, rfl⟩
    · exact keep i y e
    · exact xkeep
  · rcases at_end i y hy with ⟨e, _⟩ | ⟨rfl, rfl⟩
    · rcases at_end j z hz with ⟨e', _⟩ | ⟨rfl, rfl⟩
      · exact h.diff i j y z e e' hij
      · exact block_apart (old i y e) hb1
    · rcases at_end j z hz with ⟨e', _⟩ | ⟨rfl, rfl⟩
      · exact block_apart' hb1 (old j z e')
      · exact absurd rfl hij
  · rcases at_end i y hy with ⟨e, _⟩ | ⟨rfl, rfl⟩
    · exact vout y (fun k hk => by have := old i y e k hk; omega) (h.out i y e)
    · exact vout y xlt (block_apart' hb1 vlt)

/-- one row, told anew by an append, and stored back -/
theorem RowsO.put {wr w6 w7 : World} {base u bt G n C k : Nat} {x x' : Value} {vals : List Value} {row row' : Nat → List UInt8} (h : RowsO wr base u (.slice (some ⟨G, 0, none⟩) n C) vals row) (hv : wr.ownsRow base bt 1 (.slice (some ⟨G, 0, none⟩) n C) n vals)
    (hk : vals[k]? = some x) (hB : Below wr.heap.size wr w6) (hg : w6.grownBy w7 x.ownBlock) (hx : OwnP w7 base u x' (row' k)) (hb : x'.ownBlock = x.ownBlock ∨ x'.ownBlock = some w6.heap.size) (hrow : ∀ i, i ≠ k → row' i = row i) :
    (w7.setCell ⟨G, k, none⟩ x').ownsRow base bt 1 (.slice (some ⟨G, 0, none⟩) n C) n (vals.set k x') ∧ RowsO (w7.setCell ⟨G, k, none⟩ x') base u (.slice (some ⟨G, 0, none⟩) n C) (vals.set k x') row' := by
  have hG : G < wr.heap.size := (World.ownsRow.lt hv G rfl).2
  have xo := h.out k x hk
  have v6 := owns_later hv hB
  have v7 : w7.ownsRow base bt 1 (.slice (some ⟨G, 0, none⟩) n C) n vals := World.ownsRow.kept v6 hg (by
    rcases xo with e | e
    · right; rw [e]; simp [Value.ownBlock]
    · right; exact fun h => e h.symm)
  obtain ⟨v8, g8⟩ := World.ownsRow.stored v7 k x'
  have x'o : x'.ownBlock = none ∨ x'.ownBlock ≠ some G := by
    rcases hb with e | e
    · rw [e]; exact xo
    · right; rw [e]; intro h; cases h; have := hB.size; omega
  have old : ∀ (i : Nat) (y : Value), vals[i]? = some y → ∀ k, y.ownBlock = some k → k < wr.heap.size := fun i y hy k hk => ((h.own i y hy).lt hk).2
  have sets : ∀ (i : Nat) (y : Value), (vals.set k x')[i]? = some y → (i = k ∧ y = x') ∨ (i ≠ k ∧ vals[i]? = some y) := fun i y hy => by
    by_cases e : i = k
    · subst e
      have hlt : i < vals.length := by
        rcases Nat.lt_or_ge i vals.length with h | h
        · exact h
        · rw [List.getElem?_eq_none h] at hk; cases hk
      rw [List.getElem?_set_self hlt] at hy
      exact Or.inl ⟨rfl, by cases hy; rfl⟩
    · rw [List.getElem?_set_ne (fun h => e h.symm)] at hy
      exact Or.inr ⟨e, hy⟩
  have x'd : ∀ (j : Nat) (z : Value), vals[j]? = some z → j ≠ k → x'.ownBlock = none ∨ x'.ownBlock ≠ z.ownBlock := fun j z hz hj => by
    rcases hb with e | e
    · rw [e]; exact h.diff k j x z hk hz (fun h => hj h.symm)
    · refine block_apart' (s := wr.heap.size) (fun q hq => ?_) (old j z hz)
      rw [e] at hq; cases hq; exact hB.size
  refine ⟨v8, ⟨fun i y hy => ?_, fun i j y z hy hz hij => ?_, fun i y hy => ?_⟩⟩
  · rcases sets i y hy with ⟨rfl, rfl⟩ | ⟨e, hy⟩
    · exact hx.kept g8 x'o
    · rw [hrow i e]
      exact (World.ownsRow.kept (World.ownsRow.kept (owns_later (h.own i y hy) hB) hg (h.diff i k y x hy hk e)) g8 (h.out i y hy))
  · rcases sets i y hy with ⟨ei, ey⟩ | ⟨ei, hy'⟩
    · rcases sets j z hz with ⟨ej, ez⟩ | ⟨ej, hz'⟩
      · exact absurd (ei.trans ej.symm) hij
      · rw [ey]; exact x'd j z hz' ej
    · rcases sets j z hz with ⟨ej, ez⟩ | ⟨ej, hz'⟩
      · rw [ez]
        have h1 := x'd i y hy' ei
        cases hyo : y.ownBlock with
        | none => exact Or.inl rfl
        | some q =>
          right
          rcases h1 with h1 | h1
          · rw [h1]; simp
          · rw [hyo] at h1; exact fun h => h1 h.symm
      · exact h.diff i j y z hy' hz' hij
  · rcases sets i y hy with ⟨rfl, rfl⟩ | ⟨e, hy⟩
    · exact x'o
    · exact h.out i y hy

theorem RowsO.outer {wr w6 w7 : World} {base u bt G n C k : Nat} {x : Value} {vals : List Value} {row : Nat → List UInt8} (h : RowsO wr base u (.slice (some ⟨G, 0, none⟩) n C) vals row) (hv : wr.ownsRow base bt 1 (.slice (some ⟨G, 0, none⟩) n C) n vals)
    (hk : vals[k]? = some x) (hkn : k < n) (hB : Below wr.heap.size wr w6) (hg : w6.grownBy w7 x.ownBlock) : w7.cell? ⟨G, k, none⟩ = some x ∧ w7.frozen? ⟨G, k, none⟩ = false := by
  have v7 : w7.ownsRow base bt 1 (.slice (some ⟨G, 0, none⟩) n C) n vals := World.ownsRow.kept (owns_later hv hB) hg (by
    rcases h.out k x hk with e | e
    · right; rw [e]; simp [Value.ownBlock]
    · right; exact fun h => e h.symm)
  exact ⟨by rw [World.ownsRow.cellAt v7 k (by omega), hk], World.ownsRow.frozenAt v7 k⟩

/-- a row of slices of the call's own, whose slices read as the rows of a matrix -/
def Grid (w : World) (base bt G n C M : Nat) (W : Mx) : Prop :=
  ∃ vals : List Value, w.ownsRow base bt 1 (.slice (some ⟨G, 0, none⟩) n C) n vals ∧ ∀ i, i < n → ∃ x, vals[i]? = some x ∧ Rd w x (upto (W i) M) ∧ Apart G x
theorem Rd.grown {w w' : World} {v : Value} {p : List UInt8} {G : Nat} (h : Rd w v p) (hg : w.grownBy w' (some G)) (ha : Apart G v) : Rd w' v p := by
  rcases h with h | ⟨b, off, cap, h1, h2, h3, h4, h5, h6⟩
  · exact Or.inl h
  · have hb : b ≠ G := by
      rcases ha _ _ _ h2 with e | e
      · exact absurd (List.length_eq_zero_iff.1 e) h1
      · exact e
    exact Or.inr ⟨b, off, cap, h1, h2, h3, h4, Nat.lt_of_lt_of_le h5 hg.size, fun i hi => (hg.cell_far ⟨b, off + i, none⟩ h5 (fun e => hb (by cases e; rfl))).trans (h6 i hi)⟩
theorem Grid.later {w w' : World} {base bt G n C M : Nat} {W : Mx} (h : Grid w base bt G n C M W) (hb : Below w.heap.size w w') : Grid w' base bt G n C M W := by
  obtain ⟨vals, hv, hr⟩ := h
  exact ⟨vals, owns_later hv hb, fun i hi => by obtain ⟨x, h1, h2, h3⟩ := hr i hi; exact ⟨x, h1, h2.below hb, h3⟩⟩
theorem Grid.congr {w : World} {base bt G n C M : Nat} {W W' : Mx} (h : Grid w base bt G n C M W) (he : ∀ i j, i < n → j < M → W i j = W' i j) : Grid w base bt G n C M W' := by
  obtain ⟨vals, hv, hr⟩ := h
  exact ⟨vals, hv, fun i hi => by obtain ⟨x, h1, h2, h3⟩ := hr i hi; exact ⟨x, h1, by rw [← upto_congr (fun j hj => he i j hi hj)]; exact h2, h3⟩⟩
theorem Grid.cell {w : World} {base bt G n C M : Nat} {W : Mx} (h : Grid w base bt G n C M W) {i : Nat} (hi : i < n) : ∃ x, w.cell? ⟨G, i, none⟩ = some x ∧ w.frozen? ⟨G, i, none⟩ = false ∧ Rd w x (upto (W i) M) ∧ Apart G x := by
  obtain ⟨vals, hv, hr⟩ := h
  obtain ⟨x, h1, h2, h3⟩ := hr i hi
  exact ⟨x, by rw [World.ownsRow.cellAt hv i (by omega), h1], World.ownsRow.frozenAt hv i, h2, h3⟩
theorem Grid.lt {w : World} {base bt G n C M : Nat} {W : Mx} (h : Grid w base bt G n C M W) : base ≤ G ∧ G < w.heap.size := by
  obtain ⟨vals, hv, hr⟩ := h
  exact World.ownsRow.lt hv G rfl
theorem Grid.at {w : World} {base bt G n C M : Nat} {W : Mx} (h : Grid w base bt G n C M W) {i : Nat} (hi : i < n) (hM : 0 < M) : ∃ b o cap, w.cell? ⟨G, i, none⟩ = some (.slice (some ⟨b, o, none⟩) M cap) ∧ w.frozen? ⟨G, i, none⟩ = false ∧ Rd w (.slice (some ⟨b, o, none⟩) M cap) (upto (W i) M) ∧ b ≠ G ∧ ∀ j, j < M → w.cell? ⟨b, o + j, none⟩ = some (.int .u8 ((W i j).toNat : Nat)) := by
  obtain ⟨x, h1, h2, h3, h4⟩ := h.cell hi
  have h3' := h3
  rcases h3 with ⟨ao, cap, e, _⟩ | ⟨b, o, cap, e, rfl, k1, k2, k3, k4⟩
  · have := upto_length (W i) M
    rw [e] at this; simp at this; omega
  · rw [upto_length] at h1 h3' h4 k4
    refine ⟨b, o, cap, h1, h2, h3', ?_, fun j hj => ?_⟩
    · rcases h4 _ _ _ rfl with e2 | e2
      · omega
      · exact e2
    · rw [k4 j hj, co_upto_lt hj]
theorem Below.ofdrew {a b : World} (h : Below a.drew.heap.size a.drew b) : Below a.heap.size a b := ⟨h.os, h.tape, h.output, h.size, h.block⟩
/-- a row told anew -/
theorem Grid.set {w : World} {base bt G n C M : Nat} {W W' : Mx} (h : Grid w base bt G n C M W) {k : Nat} (hk : k < n) {x : Value} (hx : Rd w x (upto (W' k) M)) (ha : Apart G x) (he : ∀ i j, i < n → i ≠ k → j < M → W i j = W' i j) : Grid (w.setCell ⟨G, k, none⟩ x) base bt G n C M W' := by
  obtain ⟨vals, hv, hr⟩ := h
  have hlen : vals.length = n := by have := hv.1; omega
  obtain ⟨v8, g8⟩ := World.ownsRow.stored hv k x
  refine ⟨_, v8, fun i hi => ?_⟩
  by_cases e : i = k
  · subst e
    exact ⟨x, List.getElem?_set_self (by omega), hx.grown g8 ha, ha⟩
  · obtain ⟨y, h1, h2, h3⟩ := hr i hi
    refine ⟨y, by rw [List.getElem?_set_ne (fun h => e h.symm)]; exact h1, ?_, h3⟩
    rw [← upto_congr (fun j hj => he i j hi e hj)]
    exact h2.grown g8 h3

end Go.Proofs.Ytlbachgbeefhcab.Gf

/-
  THE DOCUMENT's ANSWER FOR LAYER 2 (package aumbryref02) BY CONTRACT: 'Same' tells whether two lists of bytes are one.
-/

namespace Go.Proofs.Ytlbachgbeefhcab.Gf
set_option linter.unusedVariables false
set_option linter.unusedSimpArgs false
open Go.RowKit

def sameB (p q : List UInt8) : Bool := decide (p = q)
theorem sameB_self (p : List UInt8) : sameB p p = true := decide_eq_true rfl
theorem sameB_of {p q : List UInt8} (h : p = q) : sameB p q = true := decide_eq_true h

set_option maxRecDepth 100000 in
set_option maxHeartbeats 1000000 in
/-- of unlike lengths -/
theorem same_len (a b : Option Addr) (n m c d : Nat) (w : World) (h : n ≠ m) :
    Calls Try.prog 8 #[.slice a n c, .slice b m d] w fun e w' => e = .returned (.bool false) ∧ w' = w := by
  have hb : ((n : Int) != (m : Int)) = true := by simp; omega
  go_enter Try.func8, Try.ntmps8
  go_wp2
  go_ret
  exact ⟨rfl, rfl⟩

set_option maxRecDepth 100000 in
set_option maxHeartbeats 1000000 in
/-- of nothing -/
theorem same_nil (a b : Option Addr) (c d : Nat) (w : World) :
    Calls Try.prog 8 #[.slice a 0 c, .slice b 0 d] w fun e w' => e = .returned (.bool true) ∧ w' = w := by
  go_enter Try.func8, Try.ntmps8
  go_wp2
  go_loop [5] (fun i => i = .int .i64 0) (fun _ => 0)
  case atStart => rfl
  case round =>
    subst hrel
    go_wp2
    go_ret
    exact ⟨rfl, rfl⟩

set_option maxRecDepth 100000 in
set_option maxHeartbeats 1000000 in
theorem same_main (b off b' off' c d : Nat) (p q : List UInt8) (w : World) (hl : q.length = p.length) (hm : p.length ≤ 9223372036854775807)
    (hp : ∀ i, i < p.length → w.cell? ⟨b, off + i, none⟩ = some (.int .u8 ((co p i).toNat : Nat)))
    (hq : ∀ i, i < p.length → w.cell? ⟨b', off' + i, none⟩ = some (.int .u8 ((co q i).toNat : Nat))) :
    Calls Try.prog 8 #[.slice (some ⟨b, off, none⟩) p.length c, .slice (some ⟨b', off', none⟩) p.length d] w fun e w' => e = .returned (.bool (sameB p q)) ∧ ∃ n, w' = w.drewN n := by
  have hb : ((p.length : Int) != (p.length : Int)) = false := by simp
  go_enter Try.func8, Try.ntmps8
  go_wp2
  clear hb
  go_loopw [5] (fun i wr => ∃ k : Nat, k ≤ p.length ∧ i = .int .i64 k ∧ Hid (∀ j, j < k → co p j = co q j) ∧ ∃ n, wr = w.drewN n) (fun i _ => p.length - (intOf i).toNat)
  case atStart => exact ⟨0, by omega, rfl, fun j hj => by omega, 0, rfl⟩
  case round =>
    obtain ⟨k, hk, rfl, hs, nd, rfl⟩ := hrel
    by_cases hlt : k < p.length
    · have c1 := hp k hlt
      have c2 := hq k hlt
      by_cases e : co p k = co q k
      · have hn : ((((co p k).toNat : Nat) : Int) != (((co q k).toNat : Nat) : Int)) = false := by rw [ne_u8]; simp [e]
        have HS : Hid (∀ j, j < k + 1 → co p j = co q j) := fun j hj => by
          by_cases e2 : j = k
          · rw [e2]; exact e
          · exact hs.out j (by omega)
        clear e hp hq hs
        go_wp2
        go_quiet (fail)
        go_wp2
        go_roundw
        case rel => exact ⟨k + 1, by omega, by go_num, HS, _, rfl⟩
        case measure => simp [intOf]; omega
      · have hn : ((((co p k).toNat : Nat) : Int) != (((co q k).toNat : Nat) : Int)) = true := by rw [ne_u8]; simp [e]
        have E : Hid (sameB p q = false) := by
          refine decide_eq_false (fun h => e ?_)
          rw [h]
        clear e hp hq hs
        go_wp2
        go_quiet (fail)
        go_wp2
        go_ret
        exact ⟨by rw [E.out]; rfl, _, World.drewN_drewN _ _ _⟩
    · have E : Hid (sameB p q = true) := sameB_of (co_ext hl.symm (fun i hi => hs.out i (by omega)))
      clear hp hq hs
      go_wp2
      go_ret
      exact ⟨by rw [E.out]; rfl, _, rfl⟩

theorem same_any {va vb : Value} {p q : List UInt8} {w : World} (hp : Rd w va p) (hq : Rd w vb q) :
    Calls Try.prog 8 #[va, vb] w fun e w' => e = .returned (.bool (sameB p q)) ∧ ∃ n, w' = w.drewN n := by
  have l1 := hp.len
  have l2 := hq.len
  unfold maxLen at l1 l2
  by_cases hl : p.length = q.length
  · rcases hp with ⟨a, c, rfl, rfl, _⟩ | ⟨b, off, c, hp0, rfl, _, _, _, hpc⟩
    · have : q = [] := List.length_eq_zero_iff.1 (by simpa using hl.symm)
      subst this
      rcases hq with ⟨a', c', _, rfl, _⟩ | ⟨_, _, _, h, _⟩
      · exact (same_nil a a' c c' w).mono fun e w' ⟨he, hw⟩ => ⟨by rw [he, sameB_self], 0, hw⟩
      · exact absurd rfl h
    · rcases hq with ⟨a', c', rfl, rfl, _⟩ | ⟨b', off', c', hq0, rfl, _, _, _, hqc⟩
      · exact absurd (List.length_eq_zero_iff.1 hl) hp0
      · rw [← hl]
        exact same_main b off b' off' c c' p q w hl.symm (by omega) hpc (fun i hi => hqc i (by omega))
  · have E : sameB p q = false := decide_eq_false (fun h => hl (by rw [h]))
    have key : ∃ a n c, va = .slice a n c ∧ n = p.length := by
      rcases hp with ⟨a, c, rfl, rfl, _⟩ | ⟨b, off, c, hp0, rfl, _⟩
      · exact ⟨_, _, _, rfl, rfl⟩
      · exact ⟨_, _, _, rfl, rfl⟩
    have key2 : ∃ a n c, vb = .slice a n c ∧ n = q.length := by
      rcases hq with ⟨a, c, rfl, rfl, _⟩ | ⟨b, off, c, hp0, rfl, _⟩
      · exact ⟨_, _, _, rfl, rfl⟩
      · exact ⟨_, _, _, rfl, rfl⟩
    obtain ⟨a, n, c, rfl, rfl⟩ := key
    obtain ⟨a', n', c', rfl, rfl⟩ := key2
    exact (same_len a a' _ _ c c' w hl).mono fun e w' ⟨he, hw⟩ => ⟨by rw [he, E], 0, hw⟩

/-- the same, for a caller: the world behind it is a new letter -/
theorem same_b {va vb : Value} {p q : List UInt8} {w : World} (hp : Rd w va p) (hq : Rd w vb q) :
    Calls Try.prog 8 #[va, vb] w fun e w' => e = .returned (.bool (sameB p q)) ∧ Below w.heap.size w w' :=
  (same_any hp hq).mono fun e w' ⟨he, n, hw⟩ => ⟨he, by rw [hw]; exact ⟨rfl, rfl, rfl, Nat.le_refl _, fun _ _ => rfl⟩⟩

end Go.Proofs.Ytlbachgbeefhcab.Gf

/-
  SLICES OF SLICES OF BYTES IN MEMORY: 'Rs w v L': the value v reads, in the world w, as the list of lists L; 'Os': such a slice of the call's own, whose rows lie in blocks of their own. No program's function is named here.
-/

namespace Go.Proofs.Ytlbachgbeefhcab.Gf
set_option linter.unusedVariables false
set_option linter.unusedSimpArgs false
open Go.RowKit

/-- the shard i -/
def ro (L : List (List UInt8)) (i : Nat) : List UInt8 := L.getD i []
theorem ro_lt {L : List (List UInt8)} {i : Nat} (h : i < L.length) : ro L i = L[i] := by simp [ro, List.getD, h]
theorem ro_ge {L : List (List UInt8)} {i : Nat} (h : L.length ≤ i) : ro L i = [] := by simp [ro, List.getD, h]
theorem ro_some {L : List (List UInt8)} {i : Nat} (h : i < L.length) : L[i]? = some (ro L i) := by rw [ro_lt h]; exact List.getElem?_eq_getElem h
theorem ro_ext {L M : List (List UInt8)} (h : L.length = M.length) (h2 : ∀ i, i < L.length → ro L i = ro M i) : L = M := by
  refine List.ext_getElem h fun i h1 h3 => ?_
  have := h2 i h1
  rwa [ro_lt h1, ro_lt h3] at this
/-- n shards -/
def mkL (n : Nat) (f : Nat → List UInt8) : List (List UInt8) := (List.range n).map f
theorem mkL_length (n : Nat) (f : Nat → List UInt8) : (mkL n f).length = n := by simp [mkL]
theorem ro_mkL {n : Nat} {f : Nat → List UInt8} {i : Nat} (h : i < n) : ro (mkL n f) i = f i := by
  rw [ro_lt (by rw [mkL_length]; exact h)]; simp [mkL]
theorem mkL_ro (L : List (List UInt8)) : mkL L.length (ro L) = L := ro_ext (mkL_length _ _) fun i hi => ro_mkL (by rwa [mkL_length] at hi)
theorem mkL_succ (n : Nat) (f : Nat → List UInt8) : mkL (n + 1) f = mkL n f ++ [f n] := by simp [mkL, List.range_succ]
theorem mkL_congr {n : Nat} {f g : Nat → List UInt8} (h : ∀ i, i < n → f i = g i) : mkL n f = mkL n g := List.map_congr_left fun i hi => h i (List.mem_range.1 hi)
theorem ro_append_left {L M : List (List UInt8)} {i : Nat} (h : i < L.length) : ro (L ++ M) i = ro L i := by simp [ro, List.getD, List.getElem?_append_left h]
theorem ro_append_right {L M : List (List UInt8)} {i : Nat} (h : L.length ≤ i) : ro (L ++ M) i = ro M (i - L.length) := by simp [ro, List.getD, List.getElem?_append_right h]
theorem ro_take {L : List (List UInt8)} {k i : Nat} (h : i < k) : ro (L.take k) i = ro L i := by simp [ro, List.getD, List.getElem?_take_of_lt h]
theorem ro_drop {L : List (List UInt8)} {k i : Nat} : ro (L.drop k) i = ro L (k + i) := by simp [ro, List.getD]
theorem ro_set {L : List (List UInt8)} {k i : Nat} {x : List UInt8} (hk : k < L.length) : ro (L.set k x) i = if i = k then x else ro L i := by
  by_cases e : i = k
  · subst e; rw [if_pos rfl]; simp [ro, List.getD, List.getElem?_set_self hk]
  · rw [if_neg e]; simp [ro, List.getD, List.getElem?_set_ne (fun h => e h.symm)]

def Rs (w : World) (v : Value) (L : List (List UInt8)) : Prop :=
  ∃ (a : Option Addr) (cap : Nat), v = .slice a L.length cap ∧ L.length ≤ cap ∧ cap ≤ maxLen ∧ (a = none → cap = 0) ∧
    ∀ i, i < L.length → ∃ (b off : Nat) (x : Value), a = some ⟨b, off, none⟩ ∧ b < w.heap.size ∧ w.cell? ⟨b, off + i, none⟩ = some x ∧ Rd w x (ro L i)
theorem Rs.below {w w' : World} {v : Value} {L : List (List UInt8)} (h : Rs w v L) (hb : Below w.heap.size w w') : Rs w' v L := by
  obtain ⟨a, cap, h1, h2, h3, h4, h5⟩ := h
  refine ⟨a, cap, h1, h2, h3, h4, fun i hi => ?_⟩
  obtain ⟨b, off, x, k1, k2, k3, k4⟩ := h5 i hi
  exact ⟨b, off, x, k1, Nat.lt_of_lt_of_le k2 hb.size, (hb.cell (p := ⟨b, off + i, none⟩) k2).trans k3, k4.below hb⟩
theorem Rs.drewN {w : World} {v : Value} {L : List (List UInt8)} (h : Rs w v L) (n : Nat) : Rs (w.drewN n) v L := h
theorem Rs.form {w : World} {v : Value} {L : List (List UInt8)} (h : Rs w v L) : ∃ a c, v = .slice a L.length c := by
  obtain ⟨a, c, e, _⟩ := h
  exact ⟨a, c, e⟩
theorem Rs.len {w : World} {v : Value} {L : List (List UInt8)} (h : Rs w v L) : L.length ≤ maxLen := by
  obtain ⟨a, c, e, h1, h2, _⟩ := h
  omega
/-- a shard, as the walk meets it -/
theorem Rs.at {w : World} {a : Option Addr} {n c : Nat} {L : List (List UInt8)} (h : Rs w (.slice a n c) L) {i : Nat} (hi : i < L.length) :
    ∃ (b off : Nat) (xa : Option Addr) (xc : Nat), a = some ⟨b, off, none⟩ ∧ b < w.heap.size ∧ w.cell? ⟨b, off + i, none⟩ = some (.slice xa (ro L i).length xc) ∧ Rd w (.slice xa (ro L i).length xc) (ro L i) := by
  obtain ⟨a', c', e, h1, h2, h3, h4⟩ := h
  simp at e
  obtain ⟨rfl, rfl, rfl⟩ := e
  obtain ⟨b, off, x, k1, k2, k3, k4⟩ := h4 i hi
  obtain ⟨xa, xc, rfl⟩ := k4.form
  exact ⟨b, off, xa, xc, k1, k2, k3, k4⟩
/-- .. where its place is known -/
theorem Rs.get {w : World} {b off n c : Nat} {L : List (List UInt8)} (h : Rs w (.slice (some ⟨b, off, none⟩) n c) L) {i : Nat} (hi : i < L.length) :
    ∃ (xa : Option Addr) (xc : Nat), w.cell? ⟨b, off + i, none⟩ = some (.slice xa (ro L i).length xc) ∧ Rd w (.slice xa (ro L i).length xc) (ro L i) := by
  obtain ⟨b', off', xa, xc, e, h1, h2, h3⟩ := h.at hi
  simp at e
  obtain ⟨rfl, rfl⟩ := e
  exact ⟨xa, xc, h2, h3⟩
theorem Rs.somewhere {w : World} {v : Value} {L : List (List UInt8)} (h : Rs w v L) (hL : 0 < L.length) : ∃ b off cap, v = .slice (some ⟨b, off, none⟩) L.length cap ∧ b < w.heap.size ∧ L.length ≤ cap ∧ cap ≤ maxLen := by
  obtain ⟨a, c, e, h1, h2, h3, h4⟩ := h
  obtain ⟨b, off, x, k1, k2, _⟩ := h4 0 hL
  subst k1
  exact ⟨b, off, c, e, k2, h1, h2⟩
theorem Rd.byte {w : World} {a : Option Addr} {n c : Nat} {p : List UInt8} (h : Rd w (.slice a n c) p) {i : Nat} (hi : i < p.length) : ∃ b off, a = some ⟨b, off, none⟩ ∧ b < w.heap.size ∧ w.cell? ⟨b, off + i, none⟩ = some (.int .u8 ((co p i).toNat : Nat)) := by
  rcases h with ⟨a', c', e, _⟩ | ⟨b, off, cap, _, e, _, _, k, hc⟩
  · subst e; simp at hi
  · simp at e; obtain ⟨rfl, _⟩ := e; exact ⟨b, off, rfl, k, hc i hi⟩
theorem rs_none {w : World} : Rs w (.slice none 0 0) [] := ⟨none, 0, rfl, Nat.le_refl _, Nat.zero_le _, fun _ => rfl, fun i hi => by simp at hi⟩
/-- the first shards -/
theorem Rs.first {w : World} {b off n c k : Nat} {L : List (List UInt8)} (h : Rs w (.slice (some ⟨b, off, none⟩) n c) L) (hk : k ≤ L.length) : Rs w (.slice (some ⟨b, off, none⟩) k c) (L.take k) := by
  obtain ⟨a', c', e, h1, h2, h3, h4⟩ := h
  simp at e
  obtain ⟨e1, e2, e3⟩ := e
  subst e1 e3
  have hl : (L.take k).length = k := by rw [List.length_take]; omega
  refine ⟨some ⟨b, off, none⟩, c, by rw [hl], by rw [hl]; omega, h2, nofun, fun i hi => ?_⟩
  rw [hl] at hi
  obtain ⟨b', off', x, k1, k2, k3, k4⟩ := h4 i (by omega)
  exact ⟨b', off', x, k1, k2, k3, by rw [ro_take hi]; exact k4⟩
/-- .. and those behind them -/
theorem Rs.rest {w : World} {b off n c k : Nat} {L : List (List UInt8)} (h : Rs w (.slice (some ⟨b, off, none⟩) n c) L) (hk : k ≤ L.length) (m : Nat) (hm : m = L.length - k) : Rs w (.slice (some ⟨b, off + k, none⟩) m (c - k)) (L.drop k) := by
  obtain ⟨a', c', e, h1, h2, h3, h4⟩ := h
  simp at e
  obtain ⟨e1, e2, e3⟩ := e
  subst e1 e3 hm
  have hl : (L.drop k).length = L.length - k := by rw [List.length_drop]
  refine ⟨some ⟨b, off + k, none⟩, c - k, by rw [hl], by rw [hl]; omega, by omega, nofun, fun i hi => ?_⟩
  rw [hl] at hi
  obtain ⟨b', off', x, k1, k2, k3, k4⟩ := h4 (k + i) (by omega)
  simp at k1
  obtain ⟨rfl, rfl⟩ := k1
  exact ⟨b, off + k, x, rfl, k2, by rw [Nat.add_assoc]; exact k3, by rw [ro_drop]; exact k4⟩

/-- of the call's own: T the type of a shard, u that of a byte -/
def Os (w : World) (base T u : Nat) (v : Value) (L : List (List UInt8)) : Prop := ∃ vals, w.ownsRow base T 1 v L.length vals ∧ RowsO w base u v vals (ro L)
theorem Os.rs {w : World} {base T u : Nat} {v : Value} {L : List (List UInt8)} (h : Os w base T u v L) : Rs w v L := by
  obtain ⟨vals, hv, hr⟩ := h
  have hlen : vals.length = L.length := by have := hv.1; omega
  have hv' := hv
  obtain ⟨_, ⟨e, hn⟩ | ⟨g, cap, cur, e, hg, hh, hc, hm, hs, ht⟩⟩ := hv
  · subst e
    have : L = [] := List.length_eq_zero_iff.1 hn
    subst this
    exact rs_none
  · subst e
    refine ⟨some ⟨g, 0, none⟩, cap, rfl, hc, hm, nofun, fun i hi => ?_⟩
    have hx : vals[i]? = some vals[i] := List.getElem?_eq_getElem (by omega)
    refine ⟨g, 0, vals[i], rfl, (Array.getElem?_eq_some_iff.1 hh).1, ?_, Rd.owned (hr.own i _ hx)⟩
    rw [Nat.zero_add, World.ownsRow.cellAt hv' i (by omega), hx]
theorem Os.nil (w : World) (base T u : Nat) : Os w base T u (.slice none 0 0) [] := ⟨[], World.ownsRow_nil _ _ _ _, RowsO.nil _ _ _ _ _⟩
theorem Os.later {w w' : World} {base T u : Nat} {v : Value} {L : List (List UInt8)} (h : Os w base T u v L) (hb : Below w.heap.size w w') : Os w' base T u v L := by
  obtain ⟨vals, hv, hr⟩ := h
  exact ⟨vals, owns_later hv hb, ⟨fun i x hx => owns_later (hr.own i x hx) hb, hr.diff, hr.out⟩⟩
theorem Os.base {w : World} {base base' T u : Nat} {v : Value} {L : List (List UInt8)} (h : Os w base T u v L) (hb : base' ≤ base) : Os w base' T u v L := by
  obtain ⟨vals, hv, hr⟩ := h
  exact ⟨vals, ownsRow_base hv hb, ⟨fun i x hx => ownsRow_base (hr.own i x hx) hb, hr.diff, hr.out⟩⟩
theorem Os.as {w : World} {base T u : Nat} {v : Value} {L M : List (List UInt8)} (h : Os w base T u v L) (e : L = M) : Os w base T u v M := e ▸ h
theorem Rs.as {w : World} {v : Value} {L M : List (List UInt8)} (h : Rs w v L) (e : L = M) : Rs w v M := e ▸ h
/-- one byte, told anew -/
def setL (L : List (List UInt8)) (i n : Nat) (y : UInt8) : List (List UInt8) := L.set i ((ro L i).set n y)
theorem setL_length (L : List (List UInt8)) (i n : Nat) (y : UInt8) : (setL L i n y).length = L.length := by simp [setL]
theorem co_at {p : List UInt8} {n j : Nat} {y : UInt8} (hn : n < p.length) : co (p.set n y) j = if j = n then y else co p j := by
  by_cases e : j = n
  · subst e; rw [if_pos rfl]; simp [co, List.getD, hn]
  · rw [if_neg e]; simp [co, List.getD, List.getElem?_set_ne (fun h => e h.symm)]
/-- where a byte of a shard of the call's own lies, and what a store there leaves -/
theorem Os.byte {w : World} {base T u : Nat} {v : Value} {L : List (List UInt8)} (h : Os w base T u v L) {i n : Nat} (hi : i < L.length) (hn : n < (ro L i).length) :
    ∃ G C g c, v = .slice (some ⟨G, 0, none⟩) L.length C ∧ w.cell? ⟨G, i, none⟩ = some (.slice (some ⟨g, 0, none⟩) (ro L i).length c) ∧ w.cell? ⟨g, n, none⟩ = some (.int .u8 ((co (ro L i) n).toNat : Nat)) ∧ w.frozen? ⟨g, n, none⟩ = false ∧ base ≤ g ∧ base ≤ G ∧ g ≠ G ∧ g < w.heap.size ∧
      ∀ y : UInt8, Os (w.setCell ⟨g, n, none⟩ (.int .u8 ((y.toNat : Nat) : Int))) base T u v (setL L i n y) := by
  obtain ⟨vals, hv, hr⟩ := h
  have hlen : vals.length = L.length := by have := hv.1; omega
  have hx : vals[i]? = some vals[i] := List.getElem?_eq_getElem (by omega)
  obtain ⟨g, c, ex, hF⟩ := RowF.of (hr.own i _ hx) (by omega)
  have hG : ∃ G C, v = .slice (some ⟨G, 0, none⟩) L.length C := by
    obtain ⟨_, ⟨e, hn⟩ | ⟨G, cap, cur, e, _⟩⟩ := hv
    · omega
    · exact ⟨G, cap, e⟩
  obtain ⟨G, C, rfl⟩ := hG
  have hgG : g ≠ G := by
    have := hr.out i _ hx
    rw [ex] at this
    rcases this with e | e
    · simp [Value.ownBlock] at e
    · intro e2; subst e2; exact e rfl
  refine ⟨G, C, g, c, rfl, by rw [World.ownsRow.cellAt hv i (by omega), hx, ex], hF.cell hn, hF.unfrozen n, hF.lt.1, (World.ownsRow.lt hv G rfl).1, hgG, hF.lt.2, fun y => ?_⟩
  have h1 := hF.store (f' := fun t => if t = n then y else co (ro L i) t) hn y (fun t => rfl)
  have hg : w.grownBy (w.setCell ⟨g, n, none⟩ (.int .u8 ((y.toNat : Nat) : Int))) (some g) := by
    have O := (Only.refl g w).setCell n (.int .u8 ((y.toNat : Nat) : Int))
    exact ⟨O.os, O.tape, O.output, by rw [O.size]; exact Nat.le_refl _, fun q _ hq => O.block q (fun e => hq (by rw [e]))⟩
  refine ⟨vals, ?_, ⟨fun j x hj => ?_, hr.diff, hr.out⟩⟩
  · rw [setL_length]
    exact World.ownsRow.kept hv hg (Or.inr (by simp [Value.ownBlock]; exact fun e => hgG e.symm))
  · have hjl : j < L.length := by
      rcases Nat.lt_or_ge j vals.length with h | h
      · omega
      · rw [List.getElem?_eq_none h] at hj; cases hj
    unfold setL
    rw [ro_set hi]
    by_cases e : j = i
    · subst e
      rw [if_pos rfl]
      have e2 : x = vals[j] := by rw [hx] at hj; cases hj; rfl
      subst e2
      rw [ex]
      unfold OwnP
      have e3 : (ro L j).set n y = upto (fun t => if t = n then y else co (ro L j) t) (ro L j).length := by
        refine co_ext (by rw [upto_length]; simp) fun t ht => ?_
        rw [co_at hn, upto, co_map_range _ (by simpa using ht)]
      rw [e3, upto_length]
      exact h1
    · rw [if_neg e]
      refine OwnP.kept (hr.own j x hj) hg ?_
      have := hr.diff j i x _ hj hx e
      rw [ex] at this
      exact this
/-- one shard more: x, laid in a block of its own behind the others, then appended -/
theorem Os.push {wr w1 w2 : World} {base T u : Nat} {v v' x : Value} {L : List (List UInt8)} {p : List UInt8} {o' : Obj} {vals : List Value} (hv : wr.ownsRow base T 1 v L.length vals) (hr : RowsO wr base u v vals (ro L)) (b1 : Below wr.heap.size wr w1) (hx : OwnP w1 base u x p) (hb1 : ∀ k, x.ownBlock = some k → wr.heap.size ≤ k)
    (g2 : (w1.alloc o').grownBy w2 v.ownBlock) (hb2 : v'.ownBlock = v.ownBlock ∨ v'.ownBlock = some (w1.alloc o').heap.size) (hv' : w2.ownsRow base T 1 v' (L.length + 1) (vals ++ [x])) : Os w2 base T u v' (L ++ [p]) := by
  have hlen : vals.length = L.length := by have := hv.1; omega
  have vlt : ∀ k, v.ownBlock = some k → k < wr.heap.size := fun k hk => (World.ownsRow.lt hv k hk).2
  have old : ∀ (i : Nat) (y : Value), vals[i]? = some y → ∀ k, y.ownBlock = some k → k < wr.heap.size := fun i y hy k hk => ((hr.own i y hy).lt hk).2
  have xlt : ∀ k, x.ownBlock = some k → k < w1.heap.size := fun k hk => (hx.lt hk).2
  have s1 := b1.size
  refine ⟨vals ++ [x], by rw [List.length_append]; exact hv', ?_⟩
  have at_end : ∀ i y, (vals ++ [x])[i]? = some y → (vals[i]? = some y ∧ i < vals.length) ∨ (i = vals.length ∧ y = x) := fun i y hy => by
    by_cases hi : i < vals.length
    · rw [List.getElem?_append_left hi] at hy; exact Or.inl ⟨hy, hi⟩
    · rw [List.getElem?_append_right (by omega)] at hy
      have : i - vals.length = 0 := by
        rcases Nat.eq_zero_or_pos (i - vals.length) with e | e
        · exact e
        · rw [List.getElem?_eq_none (by simp; omega)] at hy; cases hy
      rw [this] at hy
      simp at hy
      exact Or.inr ⟨by omega, hy.symm⟩
  have keep : ∀ i y, vals[i]? = some y → OwnP w2 base u y (ro L i) := fun i y hy =>
    ((owns_later (hr.own i y hy) b1 : OwnP w1 base u y (ro L i)).alloc o').kept g2 (hr.out i y hy)
  have xkeep : OwnP w2 base u x p := (hx.alloc o').kept g2 (block_apart' hb1 vlt)
  have vout : ∀ y : Value, (∀ k, y.ownBlock = some k → k < w1.heap.size) → (y.ownBlock = none ∨ y.ownBlock ≠ v.ownBlock) → (y.ownBlock = none ∨ y.ownBlock ≠ v'.ownBlock) := fun y hy ho => by
    rcases hb2 with e | e
    · rw [e]; exact ho
    · refine block_apart hy (fun k hk => ?_)
      rw [e] at hk; simp at hk; omega
  refine ⟨fun i y hy => ?_, fun i j y z hy hz hij => ?_, fun i y hy => ?_⟩
  · rcases at_end i y hy with ⟨e, hi⟩ | ⟨rfl, rfl⟩
    · rw [ro_append_left (by omega)]; exact keep i y e
    · rw [ro_append_right (by omega), hlen, Nat.sub_self]; exact xkeep
  · rcases at_end i y hy with ⟨e, _⟩ | ⟨rfl, rfl⟩
    · rcases at_end j z hz with ⟨e', _⟩ | ⟨rfl, rfl⟩
      · exact hr.diff i j y z e e' hij
      · exact block_apart (old i y e) hb1
    · rcases at_end j z hz with ⟨e', _⟩ | ⟨rfl, rfl⟩
      · exact block_apart' hb1 (old j z e')
      · exact absurd rfl hij
  · rcases at_end i y hy with ⟨e, _⟩ | ⟨rfl, rfl⟩
    · exact vout y (fun k hk => by have := old i y e k hk; omega) (hr.out i y e)
    · exact vout y xlt (block_apart' hb1 vlt)
theorem Os.made {w : World} {base T u : Nat} (cur : Array Value) (cap : Nat) (hb : base ≤ w.heap.size) (hm : cap ≤ maxLen) (hs : cur.size = cap * 1) : Os (w.alloc (.cells cur T)) base T u (.slice (some ⟨w.heap.size, 0, none⟩) 0 cap) [] :=
  ⟨[], World.ownsRow_made w cur cap hb hm hs, RowsO.nil _ _ _ _ _⟩
theorem Os.form {w : World} {base T u : Nat} {v : Value} {L : List (List UInt8)} (h : Os w base T u v L) : ∃ a c, v = .slice a L.length c := h.rs.form

/-- 'append(s, x)' on shards of the call's own, x a shard of its own, laid as a list of one -/
theorem wpList_append_os {P : Program} {wr w1 : World} {ops : Array Oper} {rest : List Oper} {o : Oper} {a : Act} {Q : Exit → Act → World → Prop} (hgd : o.guard = none) (s xo : Operand) (t : TypeId)
    (ho : o.op = .call { callee := .builtin .append, args := #[s, xo], argTypes := #[t, t] })
    (base e : Nat) (i : TypeInfo) (ht : P.underlying t = some (.slice e)) (hi : P.info? e = some i) (hz : i.zero = some (.slice none 0 0)) (hsize : i.size = 1) (hby : i.bytes = 24)
    (u : Nat) (v : Value) (L : List (List UInt8)) (hs : a.eval s = v) (hO : Os wr base e u v L) (b1 : Below wr.heap.size wr w1) (x : Value) (p : List UInt8) (hx : OwnP w1 base u x p) (hb1 : ∀ k, x.ownBlock = some k → wr.heap.size ≤ k)
    (et c : Nat) (hxo : a.eval xo = .slice (some ⟨w1.heap.size, 0, none⟩) 1 c) (hl : L.length ≤ 100000) (hbase : base ≤ wr.heap.size)
    (h : ∀ v' w2, Os w2 base e u v' (L ++ [p]) → Below base wr w2 → (∀ q, q < w1.heap.size → v.ownBlock ≠ some q → w2.heap[q]? = w1.heap[q]?) → (∀ q, q < w1.heap.size → v.ownBlock ≠ some q → v'.ownBlock ≠ some q) → wpList P ops Q rest (a.put o.dst v') w2) : wpList P ops Q (o :: rest) a (w1.alloc (.cells #[x] et)) := by
  obtain ⟨vals, hv, hr⟩ := hO
  have s1 := b1.size
  refine wpList_append_one _ hgd s xo t ho base e i ht hi hz hsize hby v L.length vals hs (World.ownsRow.alloc (owns_later hv b1) _) w1.heap.size c x hxo (by simp) hx.one hl (by simp; omega) ?_
  intro v' w2 hv2 hg2 hb2
  refine h v' w2 (Os.push hv hr b1 hx hb1 hg2 hb2 hv2) ?_ (fun q hq hne => ?_) (fun q hq hne => ?_)
  rotate_left
  · rw [hg2.block q (by simp; omega) (fun e => hne e.symm)]
    exact ((Below.refl w1.heap.size w1).alloc (Nat.le_refl _) _).block q hq
  · rcases hb2 with e | e
    · rw [e]; exact hne
    · rw [e]; intro h; cases h; simp at hq; omega
  exact (((b1.mono hbase).alloc (by omega) _).grown hg2 (by simp; omega) (fun q hq => (World.ownsRow.lt hv q hq).1))
/-- What a call that answers shards and an error leaves. -/
def MakesRs (w : World) (x : Int) (L : List (List UInt8)) (e : Ending) (w' : World) : Prop := ∃ v, e = .returned (.tuple #[v, .int .i64 x]) ∧ Rs w' v L ∧ Below w.heap.size w w'
/-- few and short shards -/
def Small (L : List (List UInt8)) : Prop := L.length ≤ 300 ∧ ∀ i, (ro L i).length ≤ 300

/-- Slices of slices of bytes that came in, as the frame of a statement's proof tells them. -/
theorem rs_rows {w : World} {a : Addr} {len cap : Nat} {A : Nat → Option Addr} {N C : Nat → Nat} {Z : Nat → List Int} (hl : len ≤ cap) (hm : cap ≤ maxLen)
    (h : ∀ r, r < cap → w.cell? (a.add r) = some (.slice (A r) (N r) (C r)) ∧ N r ≤ C r ∧ C r ≤ maxLen ∧ (Z r).length = C r ∧ (∀ n ∈ Z r, (Lit.int .u8 n).wf = true) ∧ (A r = none → C r = 0) ∧ ∀ a', A r = some a' → 0 ≤ a'.block ∧ ∀ c, c < C r → w.cell? (a'.add c) = some (.int .u8 ((Z r).getD c 0))) :
    ∃ L, Rs w (.slice (some a) len cap) L := by
  have row : ∀ r, ∃ p : List UInt8, r < len → N r = p.length ∧ Rd w (.slice (A r) (N r) (C r)) p := fun r => by
    by_cases hr : r < len
    · obtain ⟨h1, h2, h3, h4, h5, h6, h7⟩ := h r (by omega)
      have : ∃ p : List UInt8, N r = p.length ∧ Rd w (.slice (A r) (N r) (C r)) p := by
        refine rd_row (zs := Z r) ?_
        cases hA : A r with
        | none =>
          have := h6 hA
          refine Or.inl ⟨rfl, by omega, this, List.length_eq_zero_iff.1 (by omega)⟩
        | some a' => exact Or.inr ⟨a', rfl, h2, h3, h4, fun i hi => (h7 a' hA).2 i (by omega), h5⟩
      obtain ⟨p, hp⟩ := this
      exact ⟨p, fun _ => hp⟩
    · exact ⟨[], fun h => absurd h hr⟩
  have hex : ∃ P : Nat → List UInt8, ∀ r, r < len → N r = (P r).length ∧ Rd w (.slice (A r) (N r) (C r)) (P r) := ⟨fun r => (row r).choose, fun r => (row r).choose_spec⟩
  obtain ⟨P, hP⟩ := hex
  have hll := mkL_length len P
  refine ⟨mkL len P, some a, cap, by rw [hll], by rw [hll]; exact hl, hm, nofun, fun i hi => ?_⟩
  rw [hll] at hi
  obtain ⟨h1, _⟩ := h i (by omega)
  obtain ⟨b, off, spot⟩ := a
  have hspot : spot = none := by
    have h0 := World.cell?_spot (h 0 (by omega)).1
    simpa [Addr.add] using h0
  subst hspot
  rw [add_at] at h1
  exact ⟨b, off, _, rfl, World.block_lt_of_cell? w _ h1, h1, by rw [ro_mkL hi]; exact (hP i hi).2⟩

end Go.Proofs.Ytlbachgbeefhcab.Gf

/-
  A ROW OF SLICES OF THE CALL's OWN WHOSE SLICES MAY LIE ANYWHERE. No program's function is named here.
-/

namespace Go.Proofs.Ytlbachgbeefhcab.Gf
set_option linter.unusedVariables false
set_option linter.unusedSimpArgs false
open Go.RowKit

/-- the block G is the call's own; its slices read as L and lie elsewhere -/
structure OutS (w : World) (G : Nat) (L : List (List UInt8)) : Prop where
  lt : G < w.heap.size
  cell : ∀ i, i < L.length → ∃ x, w.cell? ⟨G, i, none⟩ = some x ∧ Rd w x (ro L i) ∧ Apart G x
  free : ∀ i, w.frozen? ⟨G, i, none⟩ = false
theorem Os.outS {w : World} {base T u G n C : Nat} {L : List (List UInt8)} (h : Os w base T u (.slice (some ⟨G, 0, none⟩) n C) L) : OutS w G L := by
  obtain ⟨vals, hv, hr⟩ := h
  have hl : vals.length = L.length := by have := hv.1; omega
  have hn : n = L.length := by
    obtain ⟨_, ⟨e, _⟩ | ⟨g, cap, cur, e, _⟩⟩ := hv <;> simp at e
    exact e.2.1
  subst hn
  refine ⟨(World.ownsRow.lt hv G rfl).2, fun i hi => ?_, fun i => World.ownsRow.frozenAt hv i⟩
  have hx : vals[i]? = some vals[i] := List.getElem?_eq_getElem (by omega)
  refine ⟨vals[i], by rw [World.ownsRow.cellAt hv i (by omega), hx], Rd.owned (hr.own i _ hx), ?_⟩
  intro a m c e
  have ho := hr.out i _ hx
  by_cases hm : m = 0
  · exact Or.inl hm
  · right
    have hown := hr.own i _ hx
    rw [e] at ho hown
    obtain ⟨_, ⟨e2, _⟩ | ⟨g, cap, cur, e2, _⟩⟩ := hown
    · simp at e2
    · simp at e2
      obtain ⟨rfl, _, _⟩ := e2
      rcases ho with e3 | e3
      · simp [Value.ownBlock] at e3
      · simpa [Value.ownBlock] using e3
theorem OutS.rs {w : World} {G C : Nat} {L : List (List UInt8)} (h : OutS w G L) (hc : L.length ≤ C) (hm : C ≤ maxLen) : Rs w (.slice (some ⟨G, 0, none⟩) L.length C) L :=
  ⟨_, C, rfl, hc, hm, nofun, fun i hi => by
    obtain ⟨x, h1, h2, _⟩ := h.cell i hi
    exact ⟨G, 0, x, rfl, h.lt, by rw [Nat.zero_add]; exact h1, h2⟩⟩
theorem OutS.put {w : World} {G i : Nat} {L : List (List UInt8)} {x : Value} {p : List UInt8} (h : OutS w G L) (hi : i < L.length) (hx : Rd w x p) (ha : Apart G x) : OutS (w.setCell ⟨G, i, none⟩ x) G (L.set i p) := by
  have O := (Only.refl G w).setCell i x
  refine ⟨by rw [O.size]; exact h.lt, fun j hj => ?_, fun j => by rw [World.frozen?_setCell]; exact h.free j⟩
  rw [List.length_set] at hj
  rw [ro_set hi]
  obtain ⟨y, k1, k2, k3⟩ := h.cell j hj
  by_cases e : j = i
  · subst e
    rw [if_pos rfl]
    exact ⟨x, World.cell?_setCell_same w ⟨G, j, none⟩ x k1, hx.only ha O, ha⟩
  · rw [if_neg e]
    exact ⟨y, by rw [World.cell?_setCell_other w ⟨G, i, none⟩ ⟨G, j, none⟩ x (by simp <;> omega)]; exact k1, k2.only k3 O, k3⟩
theorem Os.drw {w : World} {base T u : Nat} {v : Value} {L : List (List UInt8)} (h : Os w base T u v L) : Os w.drew base T u v L := by
  obtain ⟨vals, hv, hr⟩ := h
  exact ⟨vals, hv, ⟨fun i x hx => hr.own i x hx, hr.diff, hr.out⟩⟩
theorem Os.drwN {w : World} {base T u : Nat} {v : Value} {L : List (List UInt8)} (h : Os w base T u v L) (n : Nat) : Os (w.drewN n) base T u v L := by
  obtain ⟨vals, hv, hr⟩ := h
  exact ⟨vals, hv, ⟨fun i x hx => hr.own i x hx, hr.diff, hr.out⟩⟩

end Go.Proofs.Ytlbachgbeefhcab.Gf

/-
  WHAT A CALL THAT TELLS A LOCATOR LEAVES. No program's function is named here.
-/

namespace Go.Proofs.Ytlbachgbeefhcab.Gf
set_option linter.unusedVariables false
set_option linter.unusedSimpArgs false
open Go.RowKit

/-- the locator, the evaluator, the error -/
def MakesK (w : World) (s known : List UInt8) (e : Ending) (w' : World) : Prop :=
  ∃ X A O va vo, KeyAns s known X A O ∧ e = .returned (.tuple #[va, vo, .int .i64 X]) ∧ Rd w' va A ∧ Rd w' vo O ∧ Below w.heap.size w w'
theorem MakesK.mk {w w' : World} {s known A O : List UInt8} {X : Int} {va vo : Value} (h : KeyAns s known X A O) (h1 : Rd w' va A) (h2 : Rd w' vo O) (h3 : Below w.heap.size w w') : MakesK w s known (.returned (.tuple #[va, vo, .int .i64 X])) w' := ⟨X, A, O, va, vo, h, rfl, h1, h2, h3⟩
theorem rd9_nil (w : World) : Rd w (.slice none 0 0) [] := Or.inl ⟨none, 0, rfl, rfl, Nat.zero_le _, fun _ => rfl⟩
/-- What a call that answers bytes leaves. -/
def MakesV (w : World) (p : List UInt8) (e : Ending) (w' : World) : Prop := ∃ v, e = .returned v ∧ Rd w' v p ∧ Below w.heap.size w w'

/-- the first numbers, from the end on -/
def revF (s : List UInt8) (i : Nat) : UInt8 := co s (s.length - 1 - i)
theorem rev_upto (s : List UInt8) : upto (revF s) s.length = s.reverse := by
  refine co_ext (by rw [upto_length, List.length_reverse]) fun i hi => ?_
  rw [upto_length] at hi
  rw [upto, co_map_range _ hi, co_rev hi]; rfl
/-- turned number by number: the first i are laid, at the end -/
def tnF (s : List UInt8) (i j : Nat) : UInt8 := if s.length - i ≤ j then revF s j else 0
theorem tnF_zero (s : List UInt8) {j : Nat} (h : j < s.length) : tnF s 0 j = 0 := if_neg (by omega)
theorem tnF_step (s : List UInt8) {i : Nat} (h : i < s.length) (j : Nat) : tnF s (i + 1) j = if j = s.length - 1 - i then co s i else tnF s i j := by
  unfold tnF
  by_cases e : j = s.length - 1 - i
  · rw [if_pos e, if_pos (by omega)]
    unfold revF
    rw [e, show s.length - 1 - (s.length - 1 - i) = i by omega]
  · rw [if_neg e]
    by_cases h2 : s.length - i ≤ j
    · rw [if_pos h2, if_pos (by omega)]
    · rw [if_neg h2, if_neg (by omega)]
theorem tnF_all (s : List UInt8) : upto (tnF s s.length) s.length = s.reverse := by
  rw [← rev_upto]
  exact upto_congr fun j hj => if_pos (by omega)
/-- what lies behind the first m bytes -/
theorem Rd.behind {w : World} {b off n c m k : Nat} {p : List UInt8} (h : Rd w (.slice (some ⟨b, off, none⟩) n c) p) (hm : m < p.length) (hk : k = p.length - m) : Rd w (.slice (some ⟨b, off + m, none⟩) k (c - m)) (p.drop m) := by
  rcases h with ⟨a, c', e, _⟩ | ⟨b', off', c', h1, h2, h3, h4, h5, h6⟩
  · subst e; simp at hm
  · simp at h2
    obtain ⟨⟨rfl, rfl⟩, rfl, rfl⟩ := h2
    subst hk
    have hl : (p.drop m).length = p.length - m := List.length_drop
    refine Or.inr ⟨b, off + m, c - m, fun e => by rw [e] at hl; simp at hl; omega, by rw [hl], by rw [hl]; omega, by omega, h5, fun i hi => ?_⟩
    rw [hl] at hi
    have e1 : co (p.drop m) i = co p (m + i) := by unfold co; rw [List.getElem?_drop]
    rw [e1, Nat.add_assoc]
    exact h6 (m + i) (by omega)
theorem Rd.spot9 {w : World} {v : Value} {p : List UInt8} (h : Rd w v p) (h0 : 0 < p.length) : ∃ b off c, v = .slice (some ⟨b, off, none⟩) p.length c ∧ p.length ≤ c ∧ c ≤ maxLen := by
  rcases h with ⟨a, c', e, _⟩ | ⟨b', off', c', h1, h2, h3, h4, h5, h6⟩
  · subst e; simp at h0
  · exact ⟨b', off', c', h2, h3, h4⟩

end Go.Proofs.Ytlbachgbeefhcab.Gf

