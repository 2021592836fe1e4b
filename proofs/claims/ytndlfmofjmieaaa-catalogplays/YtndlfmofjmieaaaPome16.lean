/- TEXTS JOINED: CtRefA. -/
import Derived.Test.YtndlfmofjmieaaaPome7
namespace Go.Proofs.Ytndlfmofjmieaaa.Gf
set_option linter.unusedVariables false
set_option linter.unusedSimpArgs false
open Go.RowKit
theorem hidC {p : Prop} (h : p) : Hid p := h
/-- the document's catalog in memory: a geometry and a list of objects -/
structure CatW (w : World) (rb : Nat) (g : GeoS) (v : Value) (LV : List ObV) : Prop where
  ge : GeoAt w rb g
  c6 : w.cell? ⟨rb, 6, none⟩ = some v
  ro : RdO w v LV
  lt : rb < w.heap.size
  few : LV.length ≤ 100000
  sts : ∀ i, i < LV.length → (LV.getD i default).o.st.length ≤ 100000
theorem CatW.below {w w' : World} {rb : Nat} {g : GeoS} {v : Value} {LV : List ObV} (h : CatW w rb g v LV) (b : Below w.heap.size w w') : CatW w' rb g v LV := by
  obtain ⟨⟨x0, x1, x2, x3, x4, x5⟩, c6, ro, lt, few, sts⟩ := h
  have k : ∀ j, w'.cell? ⟨rb, j, none⟩ = w.cell? ⟨rb, j, none⟩ := fun j => b.cell (p := ⟨rb, j, none⟩) lt
  exact ⟨⟨(k _).trans x0, (k _).trans x1, (k _).trans x2, (k _).trans x3, (k _).trans x4, (k _).trans x5⟩, (k _).trans c6, ro.below b, Nat.lt_of_lt_of_le lt b.size, few, sts⟩
/-- the place of a key -/
def idK : List ObS → List UInt8 → Nat
  | [], _ => 0
  | x :: l, k => if x.key = k then 0 else idK l k + 1
theorem idK_stop {L : List ObS} {k : List UInt8} {n : Nat} (hl : ∀ i, i < n → (L.getD i default).key ≠ k) (hn : n < L.length) (he : (L.getD n default).key = k) : idK L k = n := by
  induction L generalizing n with
  | nil => cases hn
  | cons x l ih =>
    cases n with
    | zero =>
      have e : x.key = k := he
      unfold idK; rw [if_pos e]
    | succ n =>
      have e : ¬ x.key = k := hl 0 (by omega)
      unfold idK; rw [if_neg e, ih (fun i hi => hl (i + 1) (by omega)) (by simpa using hn) he]
theorem idK_none {L : List ObS} {k : List UInt8} (hl : ∀ i, i < L.length → (L.getD i default).key ≠ k) : idK L k = L.length := by
  induction L with
  | nil => rfl
  | cons x l ih =>
    have e : ¬ x.key = k := hl 0 (by simp)
    unfold idK; rw [if_neg e, ih (fun i hi => hl (i + 1) (by simpa using hi))]; rfl
theorem idK_fin (L : List ObS) (k : List UInt8) : finK L k = if idK L k < L.length then some (L.getD (idK L k) default) else none := by
  induction L with
  | nil => rfl
  | cons x l ih =>
    unfold finK idK
    split
    · simp
    · rw [ih]
      by_cases q : idK l k < l.length
      · rw [if_pos q, if_pos (by simpa using q)]; rfl
      · rw [if_neg q, if_neg (by simpa using q)]
def finI (L : List ObS) (k : List UInt8) : Int := if idK L k < L.length then (idK L k : Int) else -1
set_option maxRecDepth 100000 in
theorem rfind19_any {w : World} {rb : Nat} {g : GeoS} {v : Value} {LV : List ObV} (h : CatW w rb g v LV) (k : List UInt8) :
    Calls Try.prog 35 #[.pointer (some ⟨rb, 0, none⟩), .string ⟨k.toArray⟩] w fun e w' => e = .returned (.int .i64 (finI (oL LV) k)) ∧ Below w.heap.size w w' := by
  obtain ⟨va, vc, rfl⟩ := h.ro.form
  have H := hidC h
  have ll := h.few
  clear h
  obtain ⟨X, hX⟩ : ∃ X, Hid (finI (oL LV) k = X) := ⟨_, rfl⟩
  rw [hX.out]
  have HN : Hid ((∀ i, i < LV.length → (LV.getD i default).o.key ≠ k) → X = -1) := fun q => by
    rw [← hX.out]
    unfold finI
    rw [idK_none (fun i hi => by rw [oL_getD]; exact q i (by rwa [oL_length] at hi)), if_neg (Nat.lt_irrefl _)]
  have HY : Hid (∀ r : Nat, r < LV.length → (∀ i, i < r → (LV.getD i default).o.key ≠ k) → (LV.getD r default).o.key = k → X = (r : Int)) := fun r hr q e => by
    have h1 := idK_stop (L := oL LV) (k := k) (n := r) (fun i hi => by rw [oL_getD]; exact q i hi) (by rwa [oL_length]) (by rw [oL_getD]; exact e)
    rw [← hX.out]
    unfold finI
    rw [h1, if_pos (by rwa [oL_length])]
  clear hX
  go_enter Try.func35, Try.ntmps35
  go_wp2
  go_loopw [5] (fun i wr => ∃ r : Nat, r ≤ LV.length ∧ i = .int .i64 (r : Int) ∧ Hid (Below w.heap.size w wr) ∧ Hid (∀ j, j < r → (LV.getD j default).o.key ≠ k)) (fun i _ => LV.length - (intOf i).toNat)
  case atStart => exact ⟨0, Nat.zero_le _, rfl, Below.refl _ _, fun j hj => absurd hj (Nat.not_lt_zero _)⟩
  case round =>
    obtain ⟨r, hr, rfl, hB, hj⟩ := hrel
    have c6 := (H.out.below hB.out).c6
    by_cases hlt : r < LV.length
    · have hlt' : (r : Int) < (LV.length : Int) := by omega
      obtain ⟨b, off, ea, hb, cz⟩ := (H.out.below hB.out).ro.at hlt
      subst ea
      have NY := hidC (HY.out r hlt hj.out)
      have NX : Hid ((LV.getD r default).o.key ≠ k → ∀ j, j < r + 1 → (LV.getD j default).o.key ≠ k) := fun q j hj2 => by
        by_cases e : j = r
        · rw [e]; exact q
        · exact hj.out j (by omega)
      have s0 := cz.c0
      generalize (LV.getD r default).o.key = y at s0 NY NX
      have c0 : wr.cell? ⟨b, off + r * 4, none⟩ = some (.string ⟨y.toArray⟩) := s0
      clear cz HN HY hj s0 H
      by_cases e : y = k
      · subst e
        obtain rfl : X = (r : Int) := NY.out rfl
        clear NY NX
        go_wp2
        go_ret
        exact ⟨rfl, hB.out⟩
      · have NX2 := hidC (NX.out e)
        have e2 : (y == k) = false := beq_eq_false_iff_ne.2 e
        clear NY NX
        go_wp2
        go_roundw
        case rel => exact ⟨r + 1, by omega, by go_num, hB, NX2⟩
        case measure => simp [intOf]; omega
    · obtain rfl : r = LV.length := by omega
      have hge : ¬ (LV.length : Int) < (LV.length : Int) := by omega
      obtain rfl : X = -1 := HN.out hj.out
      clear HN HY hj H
      go_wp2
      go_ret
      exact ⟨rfl, hB.out⟩
theorem owK_stop {L : List ObS} {s : Int} {n : Nat} (hl : ∀ i, i < n → s ∉ (L.getD i default).st) (hn : n < L.length) (he : s ∈ (L.getD n default).st) : owK L s = some (L.getD n default).ep := by
  induction L generalizing n with
  | nil => cases hn
  | cons x l ih =>
    cases n with
    | zero =>
      have e : s ∈ x.st := he
      unfold owK; rw [if_pos e]; rfl
    | succ n =>
      have e : ¬ s ∈ x.st := hl 0 (by omega)
      unfold owK; rw [if_neg e, ih (fun i hi => hl (i + 1) (by omega)) (by simpa using hn) he]; rfl
set_option maxRecDepth 100000 in
set_option maxHeartbeats 1000000 in
theorem rowner19_any {w : World} {rb : Nat} {g : GeoS} {v : Value} {LV : List ObV} (h : CatW w rb g v LV) (s : Int) {E : Int} {B : Bool} (hE : (owK (oL LV) s).getD 0 = E) (hB : (owK (oL LV) s).isSome = B) :
    Calls Try.prog 40 #[.pointer (some ⟨rb, 0, none⟩), .int .i64 s] w fun e w' => e = .returned (.tuple #[.int .i64 E, .bool B]) ∧ Below w.heap.size w w' := by
  obtain ⟨va, vc, rfl⟩ := h.ro.form
  have H := hidC h
  have ll := h.few
  clear h
  have HN : Hid ((∀ i, i < LV.length → s ∉ (LV.getD i default).o.st) → E = 0 ∧ B = false) := fun q => by
    have e : owK (oL LV) s = none := owK_none.2 fun o ho => by
      obtain ⟨c, hc, rfl⟩ := List.mem_map.1 ho
      obtain ⟨i, hi, e⟩ := List.getElem_of_mem hc
      have := q i hi
      rwa [show LV.getD i default = LV[i] by simp [List.getD, hi], e] at this
    rw [← hE, ← hB, e]
    exact ⟨rfl, rfl⟩
  have HY : Hid (∀ r : Nat, r < LV.length → (∀ i, i < r → s ∉ (LV.getD i default).o.st) → s ∈ (LV.getD r default).o.st → E = (LV.getD r default).o.ep ∧ B = true) := fun r hr q e => by
    have h1 := owK_stop (L := oL LV) (s := s) (n := r) (fun i hi => by rw [oL_getD]; exact q i hi) (by rwa [oL_length]) (by rw [oL_getD]; exact e)
    rw [← hE, ← hB, h1, oL_getD]
    exact ⟨rfl, rfl⟩
  clear hE hB
  go_enter Try.func40, Try.ntmps40
  go_wp2
  go_loopw [6] (fun i wr => ∃ r : Nat, r ≤ LV.length ∧ i = .int .i64 (r : Int) ∧ Hid (Below w.heap.size w wr) ∧ Hid (∀ j, j < r → s ∉ (LV.getD j default).o.st)) (fun i _ => LV.length - (intOf i).toNat)
  case atStart => exact ⟨0, Nat.zero_le _, rfl, Below.refl _ _, fun j hj => absurd hj (Nat.not_lt_zero _)⟩
  case round =>
    obtain ⟨r, hr, rfl, hB, hj⟩ := hrel
    have c6 := (H.out.below hB.out).c6
    by_cases hlt : r < LV.length
    · have hlt' : (r : Int) < (LV.length : Int) := by omega
      obtain ⟨b, off, ea, hb, cz⟩ := (H.out.below hB.out).ro.at hlt
      subst ea
      have NY := hidC (HY.out r hlt hj.out)
      have NX : Hid (s ∉ (LV.getD r default).o.st → ∀ j, j < r + 1 → s ∉ (LV.getD j default).o.st) := fun q j hj2 => by
        by_cases e : j = r
        · rw [e]; exact q
        · exact hj.out j (by omega)
      have sl := H.out.sts r hlt
      have CC : Hid (∀ V, Below wr.heap.size wr V → V.cell? ⟨rb, 6, none⟩ = some (.slice (some ⟨b, off, none⟩) LV.length vc) ∧ ObAt V b (off + r * 4) (LV.getD r default)) := fun V bV => ⟨((H.out.below hB.out).below bV).c6, cz.below hb bV⟩
      generalize LV.getD r default = c at cz NY NX sl CC
      obtain ⟨⟨ky, ln, ep, st⟩, vs⟩ := c
      obtain ⟨sa, sc, e⟩ := cz.rs.form
      simp only at e NY NX sl
      subst e
      clear cz HN HY hj
      obtain ⟨wy, ewy⟩ : ∃ x, x = wr := ⟨_, rfl⟩
      subst ewy
      go_wp2
      go_loopw [7] (fun i wr => ∃ q : Nat, q ≤ st.length ∧ i = .int .i64 (q : Int) ∧ Hid (Below wy.heap.size wy wr) ∧ Hid (∀ j, j < q → st.getD j 0 ≠ s)) (fun i _ => st.length - (intOf i).toNat)
      case atStart => exact ⟨0, Nat.zero_le _, rfl, Below.refl _ _, fun j hj => absurd hj (Nat.not_lt_zero _)⟩
      case round =>
        obtain ⟨q, hq, rfl, hB2, hj2⟩ := hrel
        obtain ⟨d6, cz⟩ := CC.out wr hB2.out
        have BW := hidC (hB.out.step16 hB2.out hB.out.size)
        have s2 : wr.cell? ⟨b, off + r * 4 + 2, none⟩ = some (.int .i64 ep) := cz.c2
        have s3 : wr.cell? ⟨b, off + r * 4 + 3, none⟩ = some (.slice sa st.length sc) := cz.c3
        by_cases hlt2 : q < st.length
        · have hlt3 : (q : Int) < (st.length : Int) := by omega
          obtain ⟨b2, off2, esa, cs⟩ := cz.rs.at16 hlt2
          simp only at esa cs
          subst esa
          have MEM : Hid (st.getD q 0 ∈ st) := by
            show _ ∈ _
            rw [show st.getD q 0 = st[q] by simp [List.getD, hlt2]]
            exact List.getElem_mem hlt2
          have NX2 : Hid (st.getD q 0 ≠ s → ∀ j, j < q + 1 → st.getD j 0 ≠ s) := fun e j hj3 => by
            by_cases e2 : j = q
            · rw [e2]; exact e
            · exact hj2.out j (by omega)
          generalize st.getD q 0 = y at cs NX2 MEM
          clear cz hj2 CC H c6
          by_cases e : y = s
          · subst e
            obtain ⟨rfl, rfl⟩ := NY.out MEM.out
            clear NY NX NX2 MEM
            go_wp2
            exact bodyPost_ret (v := .tuple #[.int .i64 E, .bool true]) (by simp [results, Try.results40, go_sem]) rfl ⟨rfl, BW.out⟩
          · have N3 := hidC (NX2.out e)
            have e2 : (y == s) = false := beq_eq_false_iff_ne.2 e
            clear NY NX NX2 MEM
            go_wp2
            go_roundw
            case rel => exact ⟨q + 1, by omega, by go_num, hB2, N3⟩
            case measure => simp [intOf]; omega
        · obtain rfl : q = st.length := by omega
          have hge : ¬ (st.length : Int) < (st.length : Int) := by omega
          have N4 := hidC (NX.out (fun hm => by
            obtain ⟨i, hi, e⟩ := List.getElem_of_mem hm
            exact hj2.out i hi (by rw [← e]; simp [List.getD, hi])))
          clear cz hj2 CC NY NX H c6 s2
          go_wp2
          go_roundw
          case rel => exact ⟨r + 1, by omega, by go_num, BW, N4⟩
          case measure => simp [intOf]; omega
    · obtain rfl : r = LV.length := by omega
      have hge : ¬ (LV.length : Int) < (LV.length : Int) := by omega
      obtain ⟨rfl, rfl⟩ := HN.out hj.out
      clear HN HY hj H
      go_wp2
      exact bodyPost_ret (v := .tuple #[.int .i64 0, .bool false]) (by simp [results, Try.results40, go_sem]) rfl ⟨rfl, hB.out⟩
/-- how many of the first stripes are free -/
def frN (L : List ObS) (r : Nat) : Nat := (((List.range r).map fun (i : Nat) => (i : Int)).filter fun s => (owK L s).isNone).length
theorem frN_succ (L : List ObS) (r : Nat) : frN L (r + 1) = frN L r + if (owK L (r : Int)).isSome = true then 0 else 1 := by
  unfold frN
  rw [List.range_succ, List.map_append, List.filter_append, List.length_append]
  congr 1
  cases e : owK L (r : Int) with
  | none => simp [e]
  | some x => simp [e]
theorem frN_le (L : List ObS) (r : Nat) : frN L r ≤ r := by
  induction r with
  | zero => exact Nat.le_refl _
  | succ r ih => rw [frN_succ]; split <;> omega
set_option maxRecDepth 100000 in
set_option maxHeartbeats 1000000 in
theorem rfree19_any {w : World} {rb : Nat} {g : GeoS} {v : Value} {LV : List ObV} (h : CatW w rb g v LV) (hs : g.s ≤ 1000000) {X : Int} (hX : (frC g (oL LV) : Int) = X) :
    Calls Try.prog 19 #[.pointer (some ⟨rb, 0, none⟩)] w fun e w' => e = .returned (.int .i64 X) ∧ Below w.heap.size w w' := by
  have H := hidC h
  clear h
  have KO := fun V (hV : CatW V rb g v LV) (s : Int) => rowner19_any hV s rfl rfl
  have FE : Hid (X = (frN (oL LV) g.s.toNat : Int)) := hX.symm
  clear hX
  obtain ⟨k, m, z, s, t, o⟩ := g
  simp only at hs FE
  go_enter Try.func19, Try.ntmps19
  go_wp2
  go_loopw [3, 4] (fun n i wr => ∃ r : Nat, r ≤ s.toNat ∧ i = .int .i64 (r : Int) ∧ n = .int .i64 (frN (oL LV) r : Int) ∧ Hid (Below w.heap.size w wr)) (fun _ i _ => s.toNat - (intOf i).toNat)
  case atStart => exact ⟨0, Nat.zero_le _, rfl, rfl, Below.refl _ _⟩
  case round =>
    obtain ⟨r, hr, rfl, rfl, hB⟩ := hrel
    have HW := hidC (H.out.below hB.out)
    obtain ⟨x0, x1, x2, x3, x4, x5⟩ := HW.out.ge
    simp only at x0 x1 x2 x3 x4 x5
    clear x0 x1 x2 x4 x5
    by_cases hlt : r < s.toNat
    · have hlt' : (r : Int) < s := by omega
      have FS := hidC (frN_succ (oL LV) r)
      have FL := frN_le (oL LV) r
      have K := KO wr HW.out (r : Int)
      obtain ⟨E, hE⟩ : ∃ E, (owK (oL LV) (r : Int)).getD 0 = E := ⟨_, rfl⟩
      obtain ⟨B, hB2⟩ : ∃ B, (owK (oL LV) (r : Int)).isSome = B := ⟨_, rfl⟩
      rw [hE, hB2] at K
      rw [hB2] at FS
      clear hE hB2 HW H KO FE
      generalize frN (oL LV) r = n at FS FL
      go_wp2_with fail
      refine K.mono ?_
      clear K
      rintro _ w2 ⟨rfl, b2⟩
      have B2 := hidC (hB.out.step16 b2 hB.out.size)
      clear b2 hB x3
      cases B with
      | true =>
        rw [if_pos rfl] at FS
        go_wp2
        go_roundw
        case rel => exact ⟨r + 1, by omega, by go_num, (by rw [FS.out]; rfl), B2⟩
        case measure => simp [intOf]; omega
      | false =>
        rw [if_neg (by decide)] at FS
        go_wp2
        go_roundw
        case rel => exact ⟨r + 1, by omega, by go_num, (by rw [FS.out]; go_num), B2⟩
        case measure => simp [intOf]; omega
    · obtain rfl : r = s.toNat := by omega
      have hge : ¬ ((s.toNat : Nat) : Int) < s := by omega
      have e := FE.out
      clear KO HW H FE
      go_wp2
      go_ret
      exact ⟨rfl, hB.out⟩
/-- what Get answers: an object as it lies in the list -/
def Got19 (w : World) (LV : List ObV) (k : List UInt8) (e : Ending) (w' : World) : Prop :=
  ((finK (oL LV) k = none ∧ e = .returned (.tuple #[.agg #[.string ⟨#[]⟩, .int .i64 0, .int .i64 0, .slice none 0 0], .int .i64 193])) ∨ (∃ c ∈ LV, finK (oL LV) k = some c.o ∧ e = .returned (.tuple #[.agg #[.string ⟨c.o.key.toArray⟩, .int .i64 c.o.len, .int .i64 c.o.ep, c.vs], .int .i64 0]))) ∧ Below w.heap.size w w'
/-- a variable that holds an object -/
theorem obox (w : World) (a b c d : Value) (e : Nat) : ∀ V, Below (w.alloc (.cells #[a, b, c, d] e)).heap.size (w.alloc (.cells #[a, b, c, d] e)) V → Below w.heap.size w V ∧ V.cell? ⟨w.heap.size, 0, none⟩ = some a ∧ V.cell? ⟨w.heap.size, 1, none⟩ = some b ∧ V.cell? ⟨w.heap.size, 2, none⟩ = some c ∧ V.cell? ⟨w.heap.size, 3, none⟩ = some d ∧ ∀ j, V.frozen? ⟨w.heap.size, j, none⟩ = false := by
  intro V hV
  have z : ∀ j, (w.alloc (.cells #[a, b, c, d] e)).cell? ⟨w.heap.size, j, none⟩ = #[a, b, c, d][j]? := fun j => World.cell?_alloc_new _ _ _ _
  have lt : w.heap.size < (w.alloc (.cells #[a, b, c, d] e)).heap.size := by simp
  have k : ∀ j, V.cell? ⟨w.heap.size, j, none⟩ = (w.alloc (.cells #[a, b, c, d] e)).cell? ⟨w.heap.size, j, none⟩ := fun j => hV.cell (p := ⟨w.heap.size, j, none⟩) lt
  exact ⟨(belR _ _).step16 hV (belR _ _).size, (k 0).trans (z 0), (k 1).trans (z 1), (k 2).trans (z 2), (k 3).trans (z 3), fun j => (hV.frozen (p := ⟨w.heap.size, j, none⟩) lt).trans (World.frozen?_alloc_new _ _ _ _)⟩
set_option maxRecDepth 100000 in
set_option maxHeartbeats 1000000 in
theorem rget19_any {w : World} {rb : Nat} {g : GeoS} {v : Value} {LV : List ObV} (h : CatW w rb g v LV) (k : List UInt8) :
    Calls Try.prog 39 #[.pointer (some ⟨rb, 0, none⟩), .string ⟨k.toArray⟩] w (Got19 w LV k) := by
  obtain ⟨va, vc, rfl⟩ := h.ro.form
  have H := hidC h
  have ll := h.few
  clear h
  have KF := fun V (hV : CatW V rb g (.slice va LV.length vc) LV) => rfind19_any hV k
  have FF : Hid ((finI (oL LV) k = -1 ∧ finK (oL LV) k = none) ∨ (∃ r : Nat, r < LV.length ∧ finI (oL LV) k = (r : Int) ∧ finK (oL LV) k = some (LV.getD r default).o ∧ LV.getD r default ∈ LV)) := by
    have e := idK_fin (oL LV) k
    unfold finI
    rw [e]
    by_cases q : idK (oL LV) k < (oL LV).length
    · have q' : idK (oL LV) k < LV.length := by rwa [oL_length] at q
      refine Or.inr ⟨idK (oL LV) k, q', if_pos q, ?_, ?_⟩
      · rw [if_pos q, oL_getD]
      · rw [show LV.getD (idK (oL LV) k) default = LV[idK (oL LV) k] by simp [List.getD, q']]
        exact List.getElem_mem q'
    · exact Or.inl ⟨if_neg q, if_neg q⟩
  obtain ⟨X, hX⟩ : ∃ X, finI (oL LV) k = X := ⟨_, rfl⟩
  rw [hX] at KF FF
  clear hX
  obtain ⟨W, hW⟩ : ∃ W, W = w.alloc (.cells #[.string ⟨#[]⟩, .int .i64 0, .int .i64 0, .slice none 0 0] 52) := ⟨_, rfl⟩
  have TB : Hid (∀ V, Below W.heap.size W V → Below w.heap.size w V ∧ V.cell? ⟨w.heap.size, 0, none⟩ = some (.string ⟨#[]⟩) ∧ V.cell? ⟨w.heap.size, 1, none⟩ = some (.int .i64 0) ∧ V.cell? ⟨w.heap.size, 2, none⟩ = some (.int .i64 0) ∧ V.cell? ⟨w.heap.size, 3, none⟩ = some (.slice none 0 0) ∧ ∀ j, V.frozen? ⟨w.heap.size, j, none⟩ = false) := by rw [hW]; exact obox _ _ _ _ _ _
  have K := KF W (H.out.below (TB.out W (Below.refl _ _)).1)
  clear KF
  go_enter Try.func39, Try.ntmps39
  go_wp2_with fail
  rw [← hW]
  clear hW
  refine K.mono ?_
  clear K
  rintro _ w1 ⟨rfl, b1⟩
  obtain ⟨BW, q0, q1, q2, q3, qf⟩ := TB.out w1 b1
  have f0 := qf 0
  have f1 := qf 1
  have f2 := qf 2
  have f3 := qf 3
  have hc := H.out.below BW
  clear TB H b1 qf
  rcases FF.out with ⟨rfl, e⟩ | ⟨r, hr, rfl, e, hm⟩
  · obtain ⟨oY, s0, s1, s2, s3⟩ := set4 (a := .string ⟨#[]⟩) (b := .int .i64 0) (c := .int .i64 0) (d := .slice none 0 0) q0 q1 q2 q3
    have F : Hid (Got19 w LV k _ _) := ⟨Or.inl ⟨e, rfl⟩, BW.trans (oY.below (Nat.le_refl _))⟩
    clear FF hc oY BW e
    go_wp2
    exact bodyPost_ret (v := .tuple #[.agg #[.string ⟨#[]⟩, .int .i64 0, .int .i64 0, .slice none 0 0], .int .i64 193]) (by simp [results, Try.results39, go_sem, s0, s1, s2, s3]) rfl F.out
  · obtain ⟨b, off, ea, hb, cz⟩ := hc.ro.at hr
    subst ea
    have c6 := hc.c6
    obtain ⟨c, hcc⟩ : ∃ c, LV.getD r default = c := ⟨_, rfl⟩
    rw [hcc] at cz e hm
    have hr' : (r : Int) < (LV.length : Int) := by omega
    have hr2 : ¬ (r : Int) < 0 := by omega
    clear hcc hc FF
    obtain ⟨⟨ky, ln, ep, st⟩, vs⟩ := c
    obtain ⟨sa, sc, esv⟩ := cz.rs.form
    simp only at esv
    subst esv
    have s0' : w1.cell? ⟨b, off + r * 4, none⟩ = some (.string ⟨ky.toArray⟩) := cz.c0
    have s1' : w1.cell? ⟨b, off + r * 4 + 1, none⟩ = some (.int .i64 ln) := cz.c1
    have s2' : w1.cell? ⟨b, off + r * 4 + 2, none⟩ = some (.int .i64 ep) := cz.c2
    have s3' : w1.cell? ⟨b, off + r * 4 + 3, none⟩ = some (.slice sa st.length sc) := cz.c3
    clear cz
    obtain ⟨oY, s0, s1, s2, s3⟩ := set4 (a := .string ⟨ky.toArray⟩) (b := .int .i64 ln) (c := .int .i64 ep) (d := .slice sa st.length sc) q0 q1 q2 q3
    have F : Hid (Got19 w LV k _ _) := ⟨Or.inr ⟨_, hm, e, rfl⟩, BW.trans (oY.below (Nat.le_refl _))⟩
    clear oY BW e hm
    go_wp2
    exact bodyPost_ret (v := .tuple #[.agg #[.string ⟨ky.toArray⟩, .int .i64 ln, .int .i64 ep, .slice sa st.length sc], .int .i64 0]) (by simp [results, Try.results39, go_sem, s0, s1, s2, s3]) rfl F.out
end Go.Proofs.Ytndlfmofjmieaaa.Gf
