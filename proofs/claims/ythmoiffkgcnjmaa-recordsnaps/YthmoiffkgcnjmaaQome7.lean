/- TEXTS JOINED: ReCB, ReStr, ReEn, ReCC, ReRefP. -/
import Derived.Test.YthmoiffkgcnjmaaQome6
import Derived.Lib.AppendStr
namespace Go.Proofs.Ythmoiffkgcnjmaa.Gf
set_option linter.unusedVariables false
set_option linter.unusedSimpArgs false
open Go.RowKit
/-- a number's last bytes, the highest first -/
def nb : Nat → Nat → List UInt8
  | 0, _ => []
  | k + 1, n => UInt8.ofNat (n / 2 ^ (8 * k)) :: nb k n
theorem nb_one (n : Nat) : nb 1 n = [UInt8.ofNat n] := by
  show [UInt8.ofNat (n / 1)] = _
  rw [Nat.div_one]
theorem nb_two (n : Nat) : nb 2 n = tw n := by
  show [UInt8.ofNat (n / 256), UInt8.ofNat (n / 1)] = _
  rw [Nat.div_one]; rfl
theorem nb_four (n : Nat) : nb 4 n = fo n := by
  show [UInt8.ofNat (n / 16777216), UInt8.ofNat (n / 65536), UInt8.ofNat (n / 256), UInt8.ofNat (n / 1)] = _
  rw [Nat.div_one]; rfl
theorem cat1_16 {w : World} {base e : Nat} {v : Value} {p : List UInt8} {x : UInt8} (h : w.ownsRow base e 1 v (p.length + 1) (p.map vb ++ [vb x])) : OwnP w base e v (p ++ [x]) := by
  unfold OwnP
  rw [List.length_append, List.map_append]; exact h
theorem num_step {p : Prop} (h : p := by
  clear hx2 e1
  go_wp2_with (at_builtin; (refine wpList_append_rd2 _ rfl (.tmp 14) (.tmp 20) 26 rfl B 5 i0 Try.underlying26 hi hz0 hz1 hz2 _ _ _ rfl o1 _ [x] rfl R1 (by simp only [List.length_cons, List.length_nil]; omega) (Nat.le_trans hb C1.gr.size) ?_); intro v3 w3 h3 g3 e3; have o3 := cat1_16 h3; have C3 := C1.trans (Gro.of g3 e3); clear h3 g3 e3 o1 R1 C1)
  go_roundw
  case rel => exact ⟨_, _, by omega, by first | rfl | (go_num), o3, C3, hq2, by show _ ≤ _; rw [List.length_append]; simp only [List.length_cons, List.length_nil]; omega⟩
  case measure => simp [intOf]) : p := h
set_option maxRecDepth 100000 in
set_option maxHeartbeats 2000000 in
theorem num16_any {w : World} {B : Nat} {v : Value} {p : List UInt8} (h : OwnP w B 5 v p) (hb : B ≤ w.heap.size) {n k : Nat} (hk : k ≤ 4) (hl : p.length ≤ 900000) {u z : Int} (hu : u = (n : Int)) (hz : z = (k : Int)) :
    Calls Try.prog 37 #[v, .int .i64 u, .int .i64 z] w fun e w' => ∃ v', e = .returned v' ∧ OwnP w' B 5 v' (p ++ nb k n) ∧ Gro w v w' v' := by
  subst hu hz
  obtain ⟨a, c, rfl⟩ := owns_form h
  obtain ⟨i0, hi, hz0, hz1, hz2⟩ := info_parts info_u8
  have e1 : IntKind.i64.wrap ((k : Int) - 1) = (k : Int) - 1 := by rw [IntKind.wrap_i64]; omega
  go_enter Try.func37, Try.ntmps37
  go_wp2
  go_loopw [0, 7] (fun b i wr => ∃ (r : Nat) (q : List UInt8), r ≤ 4 ∧ i = .int .i64 ((r : Int) - 1) ∧ OwnP wr B 5 b q ∧ Hid (Gro w (.slice a p.length c) wr b) ∧ Hid (q ++ nb r n = p ++ nb k n) ∧ Hid (q.length + r ≤ 900004)) (fun _ i _ => ((intOf i) + 1).toNat)
  case atStart => exact ⟨k, p, hk, rfl, h, Gro.refl _ _, rfl, by show _ ≤ _; omega⟩
  case round =>
    obtain ⟨r, q, hr, rfl, hO, hB, hq, hql⟩ := hrel
    obtain ⟨oa, oc, rfl⟩ := owns_form hO
    rcases r with _ | s
    · have HF : Hid (OwnP wr B 5 (.slice oa q.length oc) (p ++ nb k n) ∧ Gro w (.slice a p.length c) wr (.slice oa q.length oc)) := by
        have e := hq.out
        rw [show nb 0 n = [] from rfl, List.append_nil] at e
        exact ⟨by rw [← e]; exact hO, hB.out⟩
      clear hO hq hB
      go_wp2
      go_ret
      exact ⟨_, rfl, HF.out.1, HF.out.2⟩
    · have hs : s = 0 ∨ s = 1 ∨ s = 2 ∨ s = 3 := by omega
      obtain ⟨x, hx⟩ : ∃ x, Hid (x = UInt8.ofNat (n / 2 ^ (8 * s))) := ⟨_, rfl⟩
      have hx2 : Hid (((n / 2 ^ (8 * s) : Nat) : Int) % 256 = ((x.toNat : Nat) : Int)) := by show _ = _; rw [hx.out, UInt8.toNat_ofNat']; omega
      have hq2 : Hid ((q ++ [x]) ++ nb s n = p ++ nb k n) := by
        rw [← hq.out, hx.out]
        show _ = _
        rw [List.append_assoc]; rfl
      have hl2 := hql.out
      have e2 : IntKind.i64.wrap ((s : Int) - 1) = (s : Int) - 1 := by rw [IntKind.wrap_i64]; omega
      have o1 : OwnP (wr.alloc (.cells #[.int .u8 ((x.toNat : Nat) : Int)] 5)) B 5 (.slice oa q.length oc) q := OwnP.alloc hO _
      have R1 : Rd (wr.alloc (.cells #[.int .u8 ((x.toNat : Nat) : Int)] 5)) (.slice (some ⟨wr.heap.size, 0, none⟩) 1 1) [x] := rd_lit [x] rfl rfl (by decide)
      have C1 : Gro w (.slice a p.length c) (wr.alloc (.cells #[.int .u8 ((x.toNat : Nat) : Int)] 5)) (.slice oa q.length oc) := hB.out.trans (Gro.bel _ (belR _ _))
      clear hO hB hq hx
      rcases hs with rfl | rfl | rfl | rfl
      · have qx : (n : Int) % 256 = ((x.toNat : Nat) : Int) := by have := hx2.out; simp at this; omega
        exact num_step
      · have qx : (n : Int) / 256 % 256 = ((x.toNat : Nat) : Int) := by have := hx2.out; simp at this; omega
        exact num_step
      · have qx : (n : Int) / 65536 % 256 = ((x.toNat : Nat) : Int) := by have := hx2.out; simp at this; omega
        exact num_step
      · have qx : (n : Int) / 16777216 % 256 = ((x.toNat : Nat) : Int) := by have := hx2.out; simp at this; omega
        exact num_step
end Go.Proofs.Ythmoiffkgcnjmaa.Gf

namespace Go.Proofs.Ythmoiffkgcnjmaa.Gf
set_option linter.unusedVariables false
set_option linter.unusedSimpArgs false
open Go.RowKit
open Go.Lib
theorem strCells_key (y : List UInt8) : strCells ⟨y.toArray⟩ = y.map vb := by
  unfold strCells
  rfl
theorem run_append_str16 {P : Program} (w : World) (base : Nat) (t u ty e : TypeId) (i : TypeInfo) (ht : P.underlying t = some (.slice e)) (hu : P.underlying u = some .string) (hi : P.info? e = some i) (hz : i.zero = some (.int .u8 0)) (hsize : i.size = 1) (hby : i.bytes = 1)
    (v : Value) (p : List UInt8) (hown : OwnP w base e v p) (y : List UInt8) (hl : p.length + y.length ≤ 1000000) (hbase : base ≤ w.heap.size) :
    ∃ v' w', (Builtin.append_ #[t, u] ty #[v, .string ⟨y.toArray⟩]).run P w = .ok v' w' ∧ OwnP w' base e v' (p ++ y) ∧ Gro w v w' v' := by
  have es : (⟨y.toArray⟩ : ByteArray).size = y.length := by show y.toArray.size = _; simp
  obtain ⟨v', w', hr, h2, h3, h4⟩ := run_append_own_string (P := P) w base t u ty e i ht hu hi hz hsize hby v p.length (p.map vb) hown ⟨y.toArray⟩ (by rw [es]; unfold maxLen; omega) (by rw [es]; omega) hbase
  refine ⟨v', w', hr, ?_, Gro.of h3 ?_⟩
  · unfold OwnP
    rw [List.length_append, List.map_append, ← strCells_key, ← es]; exact h2
  · rcases hown.2 with ⟨rfl, hn⟩ | ⟨g, cap, cur, rfl, hbg, hg, hnc, hcm, hcs, htake⟩
    · by_cases hm : y.length = 0
      · rw [h4.2 ⟨rfl, by rw [es]; exact hm⟩]; exact Or.inl rfl
      · have hr2 := run_append_nil_string (P := P) w t u ty e i (.int .u8 0) ht hu hi hz ⟨y.toArray⟩ (by rw [es]; omega) (by rw [es]; omega) (by rw [hby, es]; omega)
        rw [hr] at hr2
        simp only [Result.ok.injEq] at hr2
        rw [hr2.1]; exact Or.inr rfl
    · by_cases hroom : p.length + y.length ≤ cap
      · have hr2 := run_append_room_string (P := P) w t u ty e i ht hu hi hsize g p.length cap cur hg ⟨y.toArray⟩ (by rw [es]; omega) (by rw [es]; omega)
        rw [hr] at hr2
        simp only [Result.ok.injEq] at hr2
        rw [hr2.1]; exact Or.inl rfl
      · have holds : ∀ j u, (p.map vb)[j]? = some u → w.cell? ((⟨g, 0, none⟩ : Addr).add j) = some u := World.ownsRow.cells hown (g := g) rfl
        have hr2 := run_append_grow_string (P := P) w t u ty e i (.int .u8 0) ht hu hi hz ⟨g, 0, none⟩ p.length cap (p.map vb) (by rw [hsize]; simp) holds ⟨y.toArray⟩ (by rw [es]; omega) (by rw [es]; omega) (by rw [hby, es]; exact growslice_fits (by omega) (by omega))
        rw [hr] at hr2
        simp only [Result.ok.injEq] at hr2
        rw [hr2.1]; exact Or.inr rfl
theorem wpList_append_str16 {P : Program} (w : World) {ops : Array Oper} {rest : List Oper} {o : Oper} {a : Act} {Q : Exit → Act → World → Prop} (hgd : o.guard = none) (sl x : Operand) (t u : TypeId)
    (ho : o.op = .call { callee := .builtin .append, args := #[sl, x], argTypes := #[t, u] })
    (base : Nat) (e : TypeId) (i : TypeInfo) (ht : P.underlying t = some (.slice e)) (hu : P.underlying u = some .string) (hi : P.info? e = some i) (hz : i.zero = some (.int .u8 0)) (hsize : i.size = 1) (hby : i.bytes = 1)
    (v : Value) (p : List UInt8) (hs : a.eval sl = v) (hown : OwnP w base e v p) (y : List UInt8) (hx : a.eval x = .string ⟨y.toArray⟩) (hl : p.length + y.length ≤ 1000000) (hbase : base ≤ w.heap.size)
    (h : ∀ v' w', OwnP w' base e v' (p ++ y) → Gro w v w' v' → wpList P ops Q rest (a.put o.dst v') w') : wpList P ops Q (o :: rest) a w := by
  refine wpList_plain hgd fun K hK => ?_
  obtain ⟨v', w', hr, h2, h3⟩ := run_append_str16 (P := P) w base t u o.type e i ht hu hi hz hsize hby v p hown y hl hbase
  unfold Oper.wp execOp
  simp only [ho, resolve, invoke, builtin, Sem.run_bind, Sem.run_pure, Result.andThen_ok, List.map_toArray, List.map_cons, List.map_nil, hs, hx, hr]
  exact hK _ _ (h v' w' h2 h3)
end Go.Proofs.Ythmoiffkgcnjmaa.Gf

namespace Go.Proofs.Ythmoiffkgcnjmaa.Gf
set_option linter.unusedVariables false
set_option linter.unusedSimpArgs false
open Go.RowKit
/-- bytes and an error -/
def MakesE16 (w : World) (X : Int) (p : List UInt8) (e : Ending) (w' : World) : Prop := ∃ v, e = .returned (.tuple #[v, .int .i64 X]) ∧ Rd w' v p ∧ Below w.heap.size w w'
theorem nilE16 {w w' : World} {X : Int} (b : Below w.heap.size w w') {p : List UInt8} (h : p = []) : MakesE16 w X p (.returned (.tuple #[.slice none 0 0, .int .i64 X])) w' := by
  subst h
  exact ⟨_, rfl, Or.inl ⟨none, 0, rfl, rfl, Nat.zero_le _, fun _ => rfl⟩, b⟩
/-- a record and an error -/
def MakesD16 (w : World) (X : Int) (r : RcS) (e : Ending) (w' : World) : Prop := ∃ c : RcV, e = .returned (.tuple #[aggR c, .int .i64 X]) ∧ c.r = r ∧ c.In w' ∧ Below w.heap.size w w' ∧ ∀ k, c.vs.ownBlock = some k → w.heap.size ≤ k
def noR : RcS := ⟨0, [], 0, []⟩
theorem noR_in (w : World) : RcV.In w ⟨noR, .slice none 0 0⟩ := ⟨by decide, by decide, Nat.zero_le _, Or.inl ⟨none, 0, rfl, rfl⟩, fun z hz => by cases hz⟩
end Go.Proofs.Ythmoiffkgcnjmaa.Gf

namespace Go.Proofs.Ythmoiffkgcnjmaa.Gf
set_option linter.unusedVariables false
set_option linter.unusedSimpArgs false
open Go.RowKit
theorem ownAs {w : World} {B e : Nat} {v : Value} {p q : List UInt8} (h : OwnP w B e v p) (k : p = q) : OwnP w B e v q := k ▸ h
set_option maxRecDepth 100000 in
set_option maxHeartbeats 4000000 in
theorem wrec16_any {w : World} {B : Nat} {v : Value} {p : List UInt8} (h : OwnP w B 5 v p) (hb : B ≤ w.heap.size) {c : RcV} (hok : OkR c.r) (hrd : ∀ W V, Gro w v W V → RdI W c.vs c.r.st) (hl : p.length ≤ 800000) :
    Calls Try.prog 27 #[v, aggR c] w fun e w' => ∃ v', e = .returned v' ∧ OwnP w' B 5 v' (p ++ enR c.r) ∧ Gro w v w' v' := by
  obtain ⟨⟨kd, ky, ln, st⟩, vs⟩ := c
  obtain ⟨a, cp, e⟩ := (hrd _ _ (Gro.refl _ _)).form
  simp only at e hrd
  subst e
  show Calls Try.prog 27 #[v, .agg #[.int .i64 kd, .string ⟨ky.toArray⟩, .int .i64 ln, .slice a st.length cp]] w _
  obtain ⟨va, vc, e⟩ := owns_form h
  subst e
  have OK1 : 0 ≤ kd ∧ kd < 256 := by have := hok.1; simp only at this; omega
  have OK2 : ky.length ≤ 64 := hok.2.2.1
  have OK3 : 0 ≤ ln ∧ ln ≤ 2147483647 := ⟨hok.2.2.2.1, hok.2.2.2.2.1⟩
  have OK4 : st.length ≤ 256 := hok.2.2.2.2.2.1
  have OK5 : Hid (∀ s ∈ st, 0 ≤ s ∧ s < 256) := hok.2.2.2.2.2.2.1
  clear hok
  obtain ⟨w1, hw1⟩ : ∃ w1, w1 = w.alloc (.cells #[.int .i64 kd, .string ⟨ky.toArray⟩, .int .i64 ln, .slice a st.length cp] 25) := ⟨_, rfl⟩
  have G1 : Gro w (.slice va p.length vc) w1 (.slice va p.length vc) := by rw [hw1]; exact Gro.bel _ (belR _ _)
  have s1 : w.heap.size < w1.heap.size := by rw [hw1]; show w.heap.size < (w.heap.push _).size; rw [Array.size_push]; exact Nat.lt_succ_self _
  have hne : (Value.slice va p.length vc).ownBlock ≠ some w.heap.size := own_ne h (Nat.le_refl _)
  have c0 : w1.cell? ⟨w.heap.size, 0, none⟩ = some (.int .i64 kd) := by rw [hw1, World.cell?_alloc_new]; rfl
  have c1 : w1.cell? ⟨w.heap.size, 1, none⟩ = some (.string ⟨ky.toArray⟩) := by rw [hw1, World.cell?_alloc_new]; rfl
  have c2 : w1.cell? ⟨w.heap.size, 2, none⟩ = some (.int .i64 ln) := by rw [hw1, World.cell?_alloc_new]; rfl
  have c3 : w1.cell? ⟨w.heap.size, 3, none⟩ = some (.slice a st.length cp) := by rw [hw1, World.cell?_alloc_new]; rfl
  have KP : Hid (∀ W V, Gro w1 (.slice va p.length vc) W V → W.cell? ⟨w.heap.size, 0, none⟩ = some (.int .i64 kd) ∧ W.cell? ⟨w.heap.size, 1, none⟩ = some (.string ⟨ky.toArray⟩) ∧ W.cell? ⟨w.heap.size, 2, none⟩ = some (.int .i64 ln) ∧ W.cell? ⟨w.heap.size, 3, none⟩ = some (.slice a st.length cp)) := fun W V b =>
    ⟨(b.cell (p := ⟨w.heap.size, 0, none⟩) s1 hne).trans c0, (b.cell (p := ⟨w.heap.size, 1, none⟩) s1 hne).trans c1, (b.cell (p := ⟨w.heap.size, 2, none⟩) s1 hne).trans c2, (b.cell (p := ⟨w.heap.size, 3, none⟩) s1 hne).trans c3⟩
  have KR : Hid (∀ W V, Gro w1 (.slice va p.length vc) W V → RdI W (.slice a st.length cp) st) := fun W V b => hrd W V (G1.trans b)
  have o1 : OwnP w1 B 5 (.slice va p.length vc) p := by rw [hw1]; exact OwnP.alloc h _
  have hb1 : B ≤ w1.heap.size := Nat.le_trans hb (Nat.le_of_lt s1)
  obtain ⟨i0, hi, hz0, hz1, hz2⟩ := info_parts info_u8
  have K1 := num16_any (n := kd.toNat) (k := 1) (z := 1) o1 hb1 (by omega) (by omega) (Int.toNat_of_nonneg OK1.1).symm rfl
  clear h hrd
  go_enter Try.func27, Try.ntmps27
  go_wp2_with fail
  rw [← hw1]
  clear hw1 c0 c1 c2 c3 o1
  refine K1.mono ?_
  rintro _ w2 ⟨v2, rfl, o2, G2⟩
  clear K1
  rw [nb_one] at o2
  have hl2 : (p ++ [UInt8.ofNat kd.toNat]).length ≤ 800001 := by rw [List.length_append]; simp only [List.length_cons, List.length_nil]; omega
  generalize e2 : p ++ [UInt8.ofNat kd.toNat] = p2 at o2 hl2
  have E2 : Hid (p ++ [UInt8.ofNat kd.toNat] = p2) := e2
  clear e2
  obtain ⟨k0, k1, k2, k3⟩ := KP.out w2 v2 G2
  have hb2 := Nat.le_trans hb1 G2.gr.size
  go_wp2_with fail
  refine (num16_any (n := ky.length) (k := 1) (z := 1) o2 hb2 (by omega) (by omega) rfl rfl).mono ?_
  rintro _ w3 ⟨v3, rfl, o3, g3⟩
  have G3 := G2.trans g3
  clear k0 k1 k2 k3 o2 g3 G2 hb2
  rw [nb_one] at o3
  have hl3 : (p2 ++ [UInt8.ofNat ky.length]).length ≤ 800002 := by rw [List.length_append]; simp only [List.length_cons, List.length_nil]; omega
  generalize e3 : p2 ++ [UInt8.ofNat ky.length] = p3 at o3 hl3
  have E3 : Hid (p2 ++ [UInt8.ofNat ky.length] = p3) := e3
  clear e3 hl2
  obtain ⟨k0, k1, k2, k3⟩ := KP.out w3 v3 G3
  have hb3 := Nat.le_trans hb1 G3.gr.size
  go_wp2_with (at_builtin; (refine wpList_append_str16 _ rfl (.tmp 16) (.tmp 18) 26 9 rfl B 5 i0 Try.underlying26 Try.underlying9 hi hz0 hz1 hz2 _ p3 rfl o3 ky rfl (by omega) hb3 ?_); intro v4 w4 o4 g4; have G4 := G3.trans g4; clear k0 k1 k2 k3 o3 g4 G3 hb3; obtain ⟨k0, k1, k2, k3⟩ := KP.out w4 v4 G4)
  have hl4 : (p3 ++ ky).length ≤ 800066 := by rw [List.length_append]; omega
  generalize e4 : p3 ++ ky = p4 at o4 hl4
  have E4 : Hid (p3 ++ ky = p4) := e4
  clear e4 hl3
  have hb4 := Nat.le_trans hb1 G4.gr.size
  refine (num16_any (n := ln.toNat) (k := 4) (z := 4) o4 hb4 (by omega) (by omega) (Int.toNat_of_nonneg OK3.1).symm rfl).mono ?_
  rintro _ w5 ⟨v5, rfl, o5, g5⟩
  have G5 := G4.trans g5
  clear k0 k1 k2 k3 o4 g5 G4 hb4
  rw [nb_four] at o5
  have hl5 : (p4 ++ fo ln.toNat).length ≤ 800070 := by rw [List.length_append, fo_length]; omega
  generalize e5 : p4 ++ fo ln.toNat = p5 at o5 hl5
  have E5 : Hid (p4 ++ fo ln.toNat = p5) := e5
  clear e5 hl4
  obtain ⟨k0, k1, k2, k3⟩ := KP.out w5 v5 G5
  have hb5 := Nat.le_trans hb1 G5.gr.size
  go_wp2_with fail
  refine (num16_any (n := st.length) (k := 2) (z := 2) o5 hb5 (by omega) (by omega) rfl rfl).mono ?_
  rintro _ w6 ⟨v6, rfl, o6, g6⟩
  have G6 := G5.trans g6
  clear k0 k1 k2 k3 o5 g6 G5 hb5
  rw [nb_two] at o6
  have hl6 : (p5 ++ tw st.length).length ≤ 800072 := by rw [List.length_append, tw_length]; omega
  generalize e6 : p5 ++ tw st.length = p6 at o6 hl6
  have E6 : Hid (p5 ++ tw st.length = p6) := e6
  clear e6 hl5
  obtain ⟨k0, k1, k2, k3⟩ := KP.out w6 v6 G6
  have HP : Hid (p6 ++ stB st = p ++ enR ⟨kd, ky, ln, st⟩) := by
    show _ = _
    rw [← E6.out, ← E5.out, ← E4.out, ← E3.out, ← E2.out]
    unfold enR
    simp only [List.append_assoc, List.cons_append, List.nil_append]
  clear E2 E3 E4 E5 E6
  obtain ⟨q0, q1, e⟩ := owns_form o6
  subst e
  go_wp2_with fail
  clear k0 k1 k2 k3
  go_loopw [0, 32] (fun ov i wr => ∃ r : Nat, r ≤ st.length ∧ i = .int .i64 (r : Int) ∧ OwnP wr B 5 ov (p6 ++ stB (st.take r)) ∧ Hid (Gro w1 (.slice va p.length vc) wr ov)) (fun _ i _ => st.length - (intOf i).toNat)
  case atStart => exact ⟨0, Nat.zero_le _, rfl, ownAs o6 (by rw [List.take_zero, show stB [] = [] from rfl, List.append_nil]), G6⟩
  case round =>
    obtain ⟨r, hr, rfl, hO, hG⟩ := hrel
    obtain ⟨Q, hQ⟩ : ∃ Q, Hid (Q = p6 ++ stB (st.take r)) := ⟨_, rfl⟩
    rw [← hQ.out] at hO
    obtain ⟨oa, oc, rfl⟩ := owns_form hO
    by_cases hlt : r < st.length
    · have hlt' : (r : Int) < (st.length : Int) := by omega
      have hrl : (r : Int) ≤ (st.length : Int) := by omega
      obtain ⟨b, off, e, cz⟩ := (KR.out _ _ hG.out).at16 hlt
      subst e
      have zz := OK5.out _ (List.getElem_mem hlt)
      have ez : st.getD r 0 = st[r] := by rw [List.getD_eq_getElem?_getD, List.getElem?_eq_getElem hlt]; rfl
      have hst : Hid (stB (st.take (r + 1)) = stB (st.take r) ++ tw (st[r]).toNat) := by
        show _ = _
        rw [List.take_succ_eq_append_getElem hlt, stB_append]
        show _ ++ (tw _ ++ []) = _
        rw [List.append_nil]
      have hll : Q.length ≤ 801000 := by rw [hQ.out, List.length_append, stB_length, List.length_take]; omega
      rw [ez] at cz
      generalize st[r] = z at cz zz hst
      clear ez
      have hb7 := Nat.le_trans hb1 hG.out.gr.size
      go_wp2_with fail
      refine (num16_any (n := z.toNat) (k := 2) (z := 2) hO hb7 (by omega) (by omega) (Int.toNat_of_nonneg zz.1).symm rfl).mono ?_
      rintro _ u1 ⟨v1, rfl, o7, g7⟩
      have G7 : Hid _ := hG.out.trans g7
      clear g7 hO hG hb7 cz
      have o8 := ownAs o7 (show _ = p6 ++ stB (st.take (r + 1)) by rw [nb_two, hQ.out, List.append_assoc, ← hst.out])
      clear o7 hst hQ
      go_wp2
      go_roundw
      case rel => exact ⟨r + 1, by omega, by go_num, o8, G7⟩
      case measure => simp [intOf]; omega
    · obtain rfl : r = st.length := by omega
      have hge : ¬ (st.length : Int) < (st.length : Int) := by omega
      have HF : Hid (OwnP wr B 5 (.slice oa Q.length oc) (p ++ enR ⟨kd, ky, ln, st⟩) ∧ Gro w (.slice va p.length vc) wr (.slice oa Q.length oc)) := ⟨ownAs hO (by rw [hQ.out, List.take_length, HP.out]), G1.trans hG.out⟩
      clear hO
      go_wp2
      go_ret
      exact ⟨_, rfl, HF.out.1, HF.out.2⟩
set_option maxRecDepth 100000 in
set_option maxHeartbeats 4000000 in
theorem enc16_any {w : World} {c : RcV} (h : c.In w) {X : Int} (hX : chR c.r = X) {P : List UInt8} (hP : (if OkR c.r then enR c.r else []) = P) : Calls Try.prog 11 #[aggR c] w (MakesE16 w X P) := by
  obtain ⟨⟨kd, ky, ln, st⟩, vs⟩ := c
  have HR := h.rs
  obtain ⟨a, cp, e⟩ := HR.form
  simp only at e HR hX hP
  subst e
  obtain ⟨w1, hw1⟩ : ∃ w1, w1 = w.alloc (.cells #[.int .i64 kd, .string ⟨ky.toArray⟩, .int .i64 ln, .slice a st.length cp] 25) := ⟨_, rfl⟩
  have B1 : Below w.heap.size w w1 := by rw [hw1]; exact belR _ _
  have s1 : w.heap.size < w1.heap.size := by rw [hw1]; show w.heap.size < (w.heap.push _).size; rw [Array.size_push]; exact Nat.lt_succ_self _
  have c0 : w1.cell? ⟨w.heap.size, 0, none⟩ = some (.int .i64 kd) := by rw [hw1, World.cell?_alloc_new]; rfl
  have c1 : w1.cell? ⟨w.heap.size, 1, none⟩ = some (.string ⟨ky.toArray⟩) := by rw [hw1, World.cell?_alloc_new]; rfl
  have c2 : w1.cell? ⟨w.heap.size, 2, none⟩ = some (.int .i64 ln) := by rw [hw1, World.cell?_alloc_new]; rfl
  have c3 : w1.cell? ⟨w.heap.size, 3, none⟩ = some (.slice a st.length cp) := by rw [hw1, World.cell?_alloc_new]; rfl
  have KP : Hid (∀ W, Below w1.heap.size w1 W → W.cell? ⟨w.heap.size, 0, none⟩ = some (.int .i64 kd) ∧ W.cell? ⟨w.heap.size, 1, none⟩ = some (.string ⟨ky.toArray⟩) ∧ W.cell? ⟨w.heap.size, 2, none⟩ = some (.int .i64 ln) ∧ W.cell? ⟨w.heap.size, 3, none⟩ = some (.slice a st.length cp)) := fun W b =>
    ⟨(b.cell (p := ⟨w.heap.size, 0, none⟩) s1).trans c0, (b.cell (p := ⟨w.heap.size, 1, none⟩) s1).trans c1, (b.cell (p := ⟨w.heap.size, 2, none⟩) s1).trans c2, (b.cell (p := ⟨w.heap.size, 3, none⟩) s1).trans c3⟩
  have K := chk16_any (h.below B1) hX
  have HR1 := HR.below B1
  clear h HR
  show Calls Try.prog 11 #[.agg #[.int .i64 kd, .string ⟨ky.toArray⟩, .int .i64 ln, .slice a st.length cp]] w _
  go_enter Try.func11, Try.ntmps11
  go_wp2_with fail
  rw [← hw1]
  clear hw1 c0 c1 c2 c3
  refine K.mono ?_
  rintro _ w2 ⟨rfl, B2⟩
  clear K
  by_cases hok : OkR ⟨kd, ky, ln, st⟩
  rotate_left
  · rw [chR, if_neg hok] at hX
    rw [if_neg hok] at hP
    subst hX
    clear KP HR1 hok
    go_wp2
    exact bodyPost_ret (v := .tuple #[.slice none 0 0, .int .i64 1]) (by simp [results, Try.results11, go_sem]) rfl (nilE16 (B1.step16 B2 (Nat.le_of_lt s1)) hP.symm)
  rw [chR, if_pos hok] at hX
  rw [if_pos hok] at hP
  subst hX
  have HP : Hid (enR ⟨kd, ky, ln, st⟩ = P) := hP
  clear hP
  obtain ⟨k0, k1, k2, k3⟩ := KP.out w2 B2
  have HR2 := HR1.below B2
  have oN : OwnP w2 w2.heap.size 5 (.slice none 0 0) [] := World.ownsRow_nil w2 w2.heap.size 5 1
  have K2 := wrec16_any (c := ⟨⟨kd, ky, ln, st⟩, .slice a st.length cp⟩) oN (Nat.le_refl _) hok (fun W V g => HR2.below (g.below (Below.refl _ _) (Nat.le_refl _) oN)) (by show 0 ≤ _; omega)
  clear hok HR1 KP HR2
  go_wp2_with fail
  refine K2.mono ?_
  rintro _ w3 ⟨v3, rfl, o3, g3⟩
  clear K2
  have HF : Hid (Rd w3 v3 P ∧ Below w.heap.size w w3) := by
    have b3 : Below w2.heap.size w2 w3 := g3.below (Below.refl _ _) (Nat.le_refl _) oN
    refine ⟨?_, (B1.step16 B2 (Nat.le_of_lt s1)).step16 b3 (Nat.le_trans (Nat.le_of_lt s1) B2.size)⟩
    rw [List.nil_append] at o3
    rw [← HP.out]
    exact Rd.owned o3
  obtain ⟨q0, q1, e⟩ := owns_form o3
  subst e
  clear o3 g3 k0 k1 k2 k3 oN
  go_wp2
  exact bodyPost_ret (v := .tuple #[.slice q0 _ q1, .int .i64 0]) (by simp [results, Try.results11, go_sem]) rfl ⟨_, rfl, HF.out.1, HF.out.2⟩
end Go.Proofs.Ythmoiffkgcnjmaa.Gf

namespace Go.Proofs.Ythmoiffkgcnjmaa.Gf
set_option linter.unusedVariables false
set_option linter.unusedSimpArgs false
open Go.RowKit
/-- a bool that says so -/
def Says16 (p : Prop) (w : World) (e : Ending) (w' : World) : Prop := ∃ x : Bool, e = .returned (.bool x) ∧ (x = true ↔ p) ∧ Below w.heap.size w w'
theorem Says16.yes {p : Prop} (h : p) {w w' : World} {x : Bool} (e : x = true) (b : Below w.heap.size w w') : Says16 p w (.returned (.bool x)) w' := ⟨x, rfl, ⟨fun _ => h, fun _ => e⟩, b⟩
theorem Says16.no {p : Prop} (h : ¬ p) {w w' : World} {x : Bool} (e : x = false) (b : Below w.heap.size w w') : Says16 p w (.returned (.bool x)) w' := ⟨x, rfl, ⟨fun q => (by rw [e] at q; cases q), fun q => absurd q h⟩, b⟩
def Short16 (L : List (List UInt8)) : Prop := L.length ≤ 5 ∧ ∀ i, i < L.length → (ro L i).length ≤ 5000
set_option maxRecDepth 100000 in
set_option maxHeartbeats 1000000 in
theorem short16_any {w : World} {v : Value} {L : List (List UInt8)} (h : Rs w v L) : Calls Try.prog 20 #[v] w (Says16 (Short16 L) w) := by
  obtain ⟨a, cp, rfl⟩ := h.form
  by_cases h5 : (L.length : Int) > 5
  · have N : Hid (¬ Short16 L) := fun q => by have := q.1; omega
    clear h
    go_enter Try.func20, Try.ntmps20
    go_wp2
    go_ret
    exact Says16.no N.out rfl (Below.refl _ _)
  · go_enter Try.func20, Try.ntmps20
    go_wp2
    go_loopw [3] (fun i wr => ∃ r : Nat, r ≤ L.length ∧ i = .int .i64 (r : Int) ∧ wr = w ∧ Hid (∀ j, j < r → (ro L j).length ≤ 5000)) (fun i _ => L.length - (intOf i).toNat)
    case atStart => exact ⟨0, Nat.zero_le _, rfl, rfl, fun j hj => absurd hj (Nat.not_lt_zero _)⟩
    case round =>
      obtain ⟨r, hr, rfl, rfl, hall⟩ := hrel
      by_cases hlt : r < L.length
      · have hlt' : (r : Int) < (L.length : Int) := by omega
        obtain ⟨b, off, xa, xc, rfl, _, cz, _⟩ := h.at hlt
        have HA : Hid ((ro L r).length ≤ 5000 → ∀ j, j < r + 1 → (ro L j).length ≤ 5000) := fun q j hj => by
          by_cases e : j = r
          · rw [e]; exact q
          · exact hall.out j (by omega)
        have HN : Hid ((ro L r).length > 5000 → ¬ Short16 L) := fun q k => by have := k.2 r hlt; omega
        generalize (ro L r).length = n at cz HA HN
        clear h hall
        by_cases hn : (n : Int) > 5000
        · have N : Hid _ := HN.out (by omega)
          go_wp2
          go_ret
          exact Says16.no N.out rfl (Below.refl _ _)
        · have H3 : Hid _ := HA.out (by omega)
          clear HA HN
          go_wp2
          go_roundw
          case rel => exact ⟨r + 1, by omega, by go_num, by first | rfl | trivial, H3.out⟩
          case measure => simp [intOf]; omega
      · obtain rfl : r = L.length := by omega
        have hge : ¬ (L.length : Int) < (L.length : Int) := by omega
        have Y : Hid (Short16 L) := ⟨by omega, hall.out⟩
        clear h hall
        go_wp2
        go_ret
        exact Says16.yes Y.out rfl (Below.refl _ _)
set_option maxRecDepth 100000 in
set_option maxHeartbeats 2000000 in
theorem parts16_any {w : World} {v u : Value} {L M : List (List UInt8)} (h : Rs w v L) (k : Rs w u M) (hl : L.length ≤ 1000000) (hm : M.length ≤ 1000000) : Calls Try.prog 25 #[v, u] w (Says16 (L = M) w) := by
  obtain ⟨a, cp, rfl⟩ := h.form
  obtain ⟨a', cp', rfl⟩ := k.form
  by_cases h5 : L.length = M.length
  rotate_left
  · have N : Hid (¬ L = M) := fun q => h5 (by rw [q])
    have h5' : ¬ (L.length : Int) = (M.length : Int) := by omega
    clear h k
    go_enter Try.func25, Try.ntmps25
    go_wp2
    go_ret
    exact Says16.no N.out rfl (Below.refl _ _)
  · have h5' : (L.length : Int) = (M.length : Int) := by omega
    have h6 : Hid (L.length = M.length) := h5
    clear h5
    go_enter Try.func25, Try.ntmps25
    go_wp2
    go_loopw [5] (fun i wr => ∃ r : Nat, r ≤ L.length ∧ i = .int .i64 (r : Int) ∧ Hid (Below w.heap.size w wr) ∧ Hid (∀ j, j < r → ro L j = ro M j)) (fun i _ => L.length - (intOf i).toNat)
    case atStart => exact ⟨0, Nat.zero_le _, rfl, Below.refl _ _, fun j hj => absurd hj (Nat.not_lt_zero _)⟩
    case round =>
      obtain ⟨r, hr, rfl, hB, hall⟩ := hrel
      by_cases hlt : r < L.length
      · have hlt' : (r : Int) < (L.length : Int) := by omega
        have hlt2 : r < M.length := by rw [← h6.out]; exact hlt
        have hlt3 : (r : Int) < (M.length : Int) := by omega
        obtain ⟨b, off, xa, xc, rfl, _, cz, R1⟩ := (h.below hB.out).at hlt
        obtain ⟨b', off', xa', xc', rfl, _, cz', R2⟩ := (k.below hB.out).at hlt2
        have HA : Hid (ro L r = ro M r → ∀ j, j < r + 1 → ro L j = ro M j) := fun q j hj => by
          by_cases e : j = r
          · rw [e]; exact q
          · exact hall.out j (by omega)
        have HN : Hid (ro L r ≠ ro M r → ¬ L = M) := fun q k => q (by rw [k])
        generalize ro L r = p at cz R1 HA HN
        generalize ro M r = q at cz' R2 HA HN
        have KS := fun W (bb : Below wr.heap.size wr W) => same_b (R1.below bb) (R2.below bb)
        have KP : ∀ W, Below wr.heap.size wr W → W.cell? ⟨b, off + r, none⟩ = some (.slice xa p.length xc) ∧ W.cell? ⟨b', off' + r, none⟩ = some (.slice xa' q.length xc') := fun W bb => ⟨(bb.cell (p := ⟨b, off + r, none⟩) (World.block_lt_of_cell? _ _ cz)).trans cz, (bb.cell (p := ⟨b', off' + r, none⟩) (World.block_lt_of_cell? _ _ cz')).trans cz'⟩
        have D0 : Below wr.heap.size wr wr.drew := (Below.refl _ _).drew
        clear h k hall R1 R2
        go_wp2
        go_region_held3 (fun wx => wx.cell? ⟨b, off + r, none⟩ = some (.slice xa p.length xc) ∧ wx.cell? ⟨b', off' + r, none⟩ = some (.slice xa' q.length xc')) (first | exact KP _ D0 | exact KP _ B3) ((go_at_call 15; go_loud (refine (KS _ D0).mono ?_); rintro _ w3 ⟨rfl, b3⟩; have B3 := D0.step16 b3 D0.size))
        have B4 : Hid (Below w.heap.size w w3) := hB.out.step16 B3 hB.out.size
        clear KS KP D0 B3 b3 hB cz cz'
        by_cases e : p = q
        · have H3 : Hid _ := HA.out e
          rw [show sameB p q = true from sameB_of e]
          clear HA HN
          go_wp2
          go_roundw
          case rel => exact ⟨r + 1, by omega, by go_num, B4, H3⟩
          case measure => simp [intOf]; omega
        · have N : Hid _ := HN.out e
          rw [show sameB p q = false from decide_eq_false e]
          clear HA HN
          go_wp2
          go_ret
          exact Says16.no N.out rfl B4.out
      · obtain rfl : r = L.length := by omega
        have hge : ¬ (L.length : Int) < (L.length : Int) := by omega
        have Y : Hid (L = M) := List.ext_getElem h6.out fun i h1 h2 => by have := hall.out i h1; rwa [ro_lt h1, ro_lt h2] at this
        have B4 := hB.out
        clear h k hall
        go_wp2
        go_ret
        exact Says16.yes Y.out rfl B4
end Go.Proofs.Ythmoiffkgcnjmaa.Gf
