/- TEXTS JOINED: ReStr, ReCC, ReSay, ReCH. -/
import Derived.Lib.AppendStr
import Derived.Test.YtclieefpnbdbjaaGreatRome20
import Derived.Laws.Cover1
namespace Go.Proofs.YtclieefpnbdbjaaGreat.Gf
set_option linter.unusedVariables false
set_option linter.unusedSimpArgs false
open Go.RowKit
open Go.Lib
theorem strCells_key (y : List UInt8) : strCells ⟨y.toArray⟩ = y.map vb := by
  unfold strCells
  rfl
theorem run_append_str16 {P : Program} (w : World) (base : Nat) (t u ty e : TypeId) (i : TypeInfo) (ht : P.underlying t = some (.slice e)) (hu : P.underlying u = some .string) (hi : P.info? e = some i) (hz : i.zero = some (.int .u8 0)) (hsize : i.size = 1) (hby : i.bytes = 1)
    (v : Value) (p : List UInt8) (hown : OwnP w base e v p) (y : List UInt8) (hl : p.length + y.length ≤ 1000000) (hbase : base ≤ w.heap.size) :
    ∃ v' w', (Builtin.append_ #[t, u] ty #[v, .string ⟨y.toArray⟩]).run P w = .ok v' w' ∧ OwnP w' base e v' (p ++ y) ∧ Gro w v w' v' := by
  have es : (⟨y.toArray⟩ : ByteArray).size = y.length := by show y.toArray.size = _; simp
  obtain ⟨v', w', hr, h2, h3, h4⟩ := run_append_own_string (P := P) w base t u ty e i ht hu hi hz hsize hby v p.length (p.map vb) hown ⟨y.toArray⟩ (by rw [es]; unfold maxLen; omega) (by rw [es]; omega) hbase
  refine ⟨v', w', hr, ?_, Gro.of h3 ?_⟩
  · unfold OwnP
    rw [List.length_append, List.map_append, ← strCells_key, ← es]; exact h2
  · rcases hown.2 with ⟨rfl, hn⟩ | ⟨g, cap, cur, rfl, hbg, hg, hnc, hcm, hcs, htake⟩
    · by_cases hm : y.length = 0
      · rw [h4.2 ⟨rfl, by rw [es]; exact hm⟩]; exact Or.inl rfl
      · have hr2 := run_append_nil_string (P := P) w t u ty e i (.int .u8 0) ht hu hi hz ⟨y.toArray⟩ (by rw [es]; omega) (by rw [es]; omega) (by rw [hby, es]; omega)
        rw [hr] at hr2
        simp only [Result.ok.injEq] at hr2
        rw [hr2.1]; exact Or.inr rfl
    · by_cases hroom : p.length + y.length ≤ cap
      · have hr2 := run_append_room_string (P := P) w t u ty e i ht hu hi hsize g p.length cap cur hg ⟨y.toArray⟩ (by rw [es]; omega) (by rw [es]; omega)
        rw [hr] at hr2
        simp only [Result.ok.injEq] at hr2
        rw [hr2.1]; exact Or.inl rfl
      · have holds : ∀ j u, (p.map vb)[j]? = some u → w.cell? ((⟨g, 0, none⟩ : Addr).add j) = some u := World.ownsRow.cells hown (g := g) rfl
        have hr2 := run_append_grow_string (P := P) w t u ty e i (.int .u8 0) ht hu hi hz ⟨g, 0, none⟩ p.length cap (p.map vb) (by rw [hsize]; simp) holds ⟨y.toArray⟩ (by rw [es]; omega) (by rw [es]; omega) (by rw [hby, es]; exact growslice_fits (by omega) (by omega))
        rw [hr] at hr2
        simp only [Result.ok.injEq] at hr2
        rw [hr2.1]; exact Or.inr rfl
theorem wpList_append_str16 {P : Program} (w : World) {ops : Array Oper} {rest : List Oper} {o : Oper} {a : Act} {Q : Exit → Act → World → Prop} (hgd : o.guard = none) (sl x : Operand) (t u : TypeId)
    (ho : o.op = .call { callee := .builtin .append, args := #[sl, x], argTypes := #[t, u] })
    (base : Nat) (e : TypeId) (i : TypeInfo) (ht : P.underlying t = some (.slice e)) (hu : P.underlying u = some .string) (hi : P.info? e = some i) (hz : i.zero = some (.int .u8 0)) (hsize : i.size = 1) (hby : i.bytes = 1)
    (v : Value) (p : List UInt8) (hs : a.eval sl = v) (hown : OwnP w base e v p) (y : List UInt8) (hx : a.eval x = .string ⟨y.toArray⟩) (hl : p.length + y.length ≤ 1000000) (hbase : base ≤ w.heap.size)
    (h : ∀ v' w', OwnP w' base e v' (p ++ y) → Gro w v w' v' → wpList P ops Q rest (a.put o.dst v') w') : wpList P ops Q (o :: rest) a w := by
  refine wpList_plain hgd fun K hK => ?_
  obtain ⟨v', w', hr, h2, h3⟩ := run_append_str16 (P := P) w base t u o.type e i ht hu hi hz hsize hby v p hown y hl hbase
  unfold Oper.wp execOp
  simp only [ho, resolve, invoke, builtin, Sem.run_bind, Sem.run_pure, Result.andThen_ok, List.map_toArray, List.map_cons, List.map_nil, hs, hx, hr]
  exact hK _ _ (h v' w' h2 h3)
end Go.Proofs.YtclieefpnbdbjaaGreat.Gf

namespace Go.Proofs.YtclieefpnbdbjaaGreat.Gf
set_option linter.unusedVariables false
set_option linter.unusedSimpArgs false
open Go.RowKit
theorem ownAs {w : World} {B e : Nat} {v : Value} {p q : List UInt8} (h : OwnP w B e v p) (k : p = q) : OwnP w B e v q := k ▸ h
set_option maxRecDepth 100000 in
set_option maxHeartbeats 4000000 in
theorem wrec16_any {w : World} {B : Nat} {v : Value} {p : List UInt8} (h : OwnP w B 5 v p) (hb : B ≤ w.heap.size) {c : RcV} (hok : OkR c.r) (hrd : ∀ W V, Gro w v W V → RdI W c.vs c.r.st) (hl : p.length ≤ 800000) :
    Calls Tryz.prog 121 #[v, aggR c] w fun e w' => ∃ v', e = .returned v' ∧ OwnP w' B 5 v' (p ++ enR c.r) ∧ Gro w v w' v' := by
  obtain ⟨⟨kd, ky, ln, st⟩, vs⟩ := c
  obtain ⟨a, cp, e⟩ := (hrd _ _ (Gro.refl _ _)).form
  simp only at e hrd
  subst e
  show Calls Tryz.prog 121 #[v, .agg #[.int .i64 kd, .string ⟨ky.toArray⟩, .int .i64 ln, .slice a st.length cp]] w _
  obtain ⟨va, vc, e⟩ := owns_form h
  subst e
  have OK1 : 0 ≤ kd ∧ kd < 256 := by have := hok.1; simp only at this; omega
  have OK2 : ky.length ≤ 64 := hok.2.2.1
  have OK3 : 0 ≤ ln ∧ ln ≤ 2147483647 := ⟨hok.2.2.2.1, hok.2.2.2.2.1⟩
  have OK4 : st.length ≤ 256 := hok.2.2.2.2.2.1
  have OK5 : Hid (∀ s ∈ st, 0 ≤ s ∧ s < 256) := hok.2.2.2.2.2.2.1
  clear hok
  obtain ⟨w1, hw1⟩ : ∃ w1, w1 = w.alloc (.cells #[.int .i64 kd, .string ⟨ky.toArray⟩, .int .i64 ln, .slice a st.length cp] 38) := ⟨_, rfl⟩
  have G1 : Gro w (.slice va p.length vc) w1 (.slice va p.length vc) := by rw [hw1]; exact Gro.bel _ (belR _ _)
  have s1 : w.heap.size < w1.heap.size := by rw [hw1]; show w.heap.size < (w.heap.push _).size; rw [Array.size_push]; exact Nat.lt_succ_self _
  have hne : (Value.slice va p.length vc).ownBlock ≠ some w.heap.size := own_ne h (Nat.le_refl _)
  have c0 : w1.cell? ⟨w.heap.size, 0, none⟩ = some (.int .i64 kd) := by rw [hw1, World.cell?_alloc_new]; rfl
  have c1 : w1.cell? ⟨w.heap.size, 1, none⟩ = some (.string ⟨ky.toArray⟩) := by rw [hw1, World.cell?_alloc_new]; rfl
  have c2 : w1.cell? ⟨w.heap.size, 2, none⟩ = some (.int .i64 ln) := by rw [hw1, World.cell?_alloc_new]; rfl
  have c3 : w1.cell? ⟨w.heap.size, 3, none⟩ = some (.slice a st.length cp) := by rw [hw1, World.cell?_alloc_new]; rfl
  have KP : Hid (∀ W V, Gro w1 (.slice va p.length vc) W V → W.cell? ⟨w.heap.size, 0, none⟩ = some (.int .i64 kd) ∧ W.cell? ⟨w.heap.size, 1, none⟩ = some (.string ⟨ky.toArray⟩) ∧ W.cell? ⟨w.heap.size, 2, none⟩ = some (.int .i64 ln) ∧ W.cell? ⟨w.heap.size, 3, none⟩ = some (.slice a st.length cp)) := fun W V b =>
    ⟨(b.cell (p := ⟨w.heap.size, 0, none⟩) s1 hne).trans c0, (b.cell (p := ⟨w.heap.size, 1, none⟩) s1 hne).trans c1, (b.cell (p := ⟨w.heap.size, 2, none⟩) s1 hne).trans c2, (b.cell (p := ⟨w.heap.size, 3, none⟩) s1 hne).trans c3⟩
  have KR : Hid (∀ W V, Gro w1 (.slice va p.length vc) W V → RdI W (.slice a st.length cp) st) := fun W V b => hrd W V (G1.trans b)
  have o1 : OwnP w1 B 5 (.slice va p.length vc) p := by rw [hw1]; exact OwnP.alloc h _
  have hb1 : B ≤ w1.heap.size := Nat.le_trans hb (Nat.le_of_lt s1)
  obtain ⟨i0, hi, hz0, hz1, hz2⟩ := info_parts info_u8
  have K1 := num16_any (n := kd.toNat) (k := 1) (z := 1) o1 hb1 (by omega) (by omega) (Int.toNat_of_nonneg OK1.1).symm rfl
  clear h hrd
  go_enter Tryz.func121, Tryz.ntmps121
  go_wp2_with fail
  rw [← hw1]
  clear hw1 c0 c1 c2 c3 o1
  refine K1.mono ?_
  rintro _ w2 ⟨v2, rfl, o2, G2⟩
  clear K1
  rw [nb_one] at o2
  have hl2 : (p ++ [UInt8.ofNat kd.toNat]).length ≤ 800001 := by rw [List.length_append]; simp only [List.length_cons, List.length_nil]; omega
  generalize e2 : p ++ [UInt8.ofNat kd.toNat] = p2 at o2 hl2
  have E2 : Hid (p ++ [UInt8.ofNat kd.toNat] = p2) := e2
  clear e2
  obtain ⟨k0, k1, k2, k3⟩ := KP.out w2 v2 G2
  have hb2 := Nat.le_trans hb1 G2.gr.size
  go_wp2_with fail
  refine (num16_any (n := ky.length) (k := 1) (z := 1) o2 hb2 (by omega) (by omega) rfl rfl).mono ?_
  rintro _ w3 ⟨v3, rfl, o3, g3⟩
  have G3 := G2.trans g3
  clear k0 k1 k2 k3 o2 g3 G2 hb2
  rw [nb_one] at o3
  have hl3 : (p2 ++ [UInt8.ofNat ky.length]).length ≤ 800002 := by rw [List.length_append]; simp only [List.length_cons, List.length_nil]; omega
  generalize e3 : p2 ++ [UInt8.ofNat ky.length] = p3 at o3 hl3
  have E3 : Hid (p2 ++ [UInt8.ofNat ky.length] = p3) := e3
  clear e3 hl2
  obtain ⟨k0, k1, k2, k3⟩ := KP.out w3 v3 G3
  have hb3 := Nat.le_trans hb1 G3.gr.size
  go_wp2_with (at_builtin; (refine wpList_append_str16 _ rfl (.tmp 16) (.tmp 18) 42 9 rfl B 5 i0 Tryz.underlying42 Tryz.underlying9 hi hz0 hz1 hz2 _ p3 rfl o3 ky rfl (by omega) hb3 ?_); intro v4 w4 o4 g4; have G4 := G3.trans g4; clear k0 k1 k2 k3 o3 g4 G3 hb3; obtain ⟨k0, k1, k2, k3⟩ := KP.out w4 v4 G4)
  have hl4 : (p3 ++ ky).length ≤ 800066 := by rw [List.length_append]; omega
  generalize e4 : p3 ++ ky = p4 at o4 hl4
  have E4 : Hid (p3 ++ ky = p4) := e4
  clear e4 hl3
  have hb4 := Nat.le_trans hb1 G4.gr.size
  refine (num16_any (n := ln.toNat) (k := 4) (z := 4) o4 hb4 (by omega) (by omega) (Int.toNat_of_nonneg OK3.1).symm rfl).mono ?_
  rintro _ w5 ⟨v5, rfl, o5, g5⟩
  have G5 := G4.trans g5
  clear k0 k1 k2 k3 o4 g5 G4 hb4
  rw [nb_four] at o5
  have hl5 : (p4 ++ fo ln.toNat).length ≤ 800070 := by rw [List.length_append, fo_length]; omega
  generalize e5 : p4 ++ fo ln.toNat = p5 at o5 hl5
  have E5 : Hid (p4 ++ fo ln.toNat = p5) := e5
  clear e5 hl4
  obtain ⟨k0, k1, k2, k3⟩ := KP.out w5 v5 G5
  have hb5 := Nat.le_trans hb1 G5.gr.size
  go_wp2_with fail
  refine (num16_any (n := st.length) (k := 2) (z := 2) o5 hb5 (by omega) (by omega) rfl rfl).mono ?_
  rintro _ w6 ⟨v6, rfl, o6, g6⟩
  have G6 := G5.trans g6
  clear k0 k1 k2 k3 o5 g6 G5 hb5
  rw [nb_two] at o6
  have hl6 : (p5 ++ tw st.length).length ≤ 800072 := by rw [List.length_append, tw_length]; omega
  generalize e6 : p5 ++ tw st.length = p6 at o6 hl6
  have E6 : Hid (p5 ++ tw st.length = p6) := e6
  clear e6 hl5
  obtain ⟨k0, k1, k2, k3⟩ := KP.out w6 v6 G6
  have HP : Hid (p6 ++ stB st = p ++ enR ⟨kd, ky, ln, st⟩) := by
    show _ = _
    rw [← E6.out, ← E5.out, ← E4.out, ← E3.out, ← E2.out]
    unfold enR
    simp only [List.append_assoc, List.cons_append, List.nil_append]
  clear E2 E3 E4 E5 E6
  obtain ⟨q0, q1, e⟩ := owns_form o6
  subst e
  go_wp2_with fail
  clear k0 k1 k2 k3
  go_loopw [0, 32] (fun ov i wr => ∃ r : Nat, r ≤ st.length ∧ i = .int .i64 (r : Int) ∧ OwnP wr B 5 ov (p6 ++ stB (st.take r)) ∧ Hid (Gro w1 (.slice va p.length vc) wr ov)) (fun _ i _ => st.length - (intOf i).toNat)
  case atStart => exact ⟨0, Nat.zero_le _, rfl, ownAs o6 (by rw [List.take_zero, show stB [] = [] from rfl, List.append_nil]), G6⟩
  case round =>
    obtain ⟨r, hr, rfl, hO, hG⟩ := hrel
    obtain ⟨Q, hQ⟩ : ∃ Q, Hid (Q = p6 ++ stB (st.take r)) := ⟨_, rfl⟩
    rw [← hQ.out] at hO
    obtain ⟨oa, oc, rfl⟩ := owns_form hO
    by_cases hlt : r < st.length
    · have hlt' : (r : Int) < (st.length : Int) := by omega
      have hrl : (r : Int) ≤ (st.length : Int) := by omega
      obtain ⟨b, off, e, cz⟩ := (KR.out _ _ hG.out).at16 hlt
      subst e
      have zz := OK5.out _ (List.getElem_mem hlt)
      have ez : st.getD r 0 = st[r] := by rw [List.getD_eq_getElem?_getD, List.getElem?_eq_getElem hlt]; rfl
      have hst : Hid (stB (st.take (r + 1)) = stB (st.take r) ++ tw (st[r]).toNat) := by
        show _ = _
        rw [List.take_succ_eq_append_getElem hlt, stB_append]
        show _ ++ (tw _ ++ []) = _
        rw [List.append_nil]
      have hll : Q.length ≤ 801000 := by rw [hQ.out, List.length_append, stB_length, List.length_take]; omega
      rw [ez] at cz
      generalize st[r] = z at cz zz hst
      clear ez
      have hb7 := Nat.le_trans hb1 hG.out.gr.size
      go_wp2_with fail
      refine (num16_any (n := z.toNat) (k := 2) (z := 2) hO hb7 (by omega) (by omega) (Int.toNat_of_nonneg zz.1).symm rfl).mono ?_
      rintro _ u1 ⟨v1, rfl, o7, g7⟩
      have G7 : Hid _ := hG.out.trans g7
      clear g7 hO hG hb7 cz
      have o8 := ownAs o7 (show _ = p6 ++ stB (st.take (r + 1)) by rw [nb_two, hQ.out, List.append_assoc, ← hst.out])
      clear o7 hst hQ
      go_wp2
      go_roundw
      case rel => exact ⟨r + 1, by omega, by go_num, o8, G7⟩
      case measure => simp [intOf]; omega
    · obtain rfl : r = st.length := by omega
      have hge : ¬ (st.length : Int) < (st.length : Int) := by omega
      have HF : Hid (OwnP wr B 5 (.slice oa Q.length oc) (p ++ enR ⟨kd, ky, ln, st⟩) ∧ Gro w (.slice va p.length vc) wr (.slice oa Q.length oc)) := ⟨ownAs hO (by rw [hQ.out, List.take_length, HP.out]), G1.trans hG.out⟩
      clear hO
      go_wp2
      go_ret
      exact ⟨_, rfl, HF.out.1, HF.out.2⟩
set_option maxRecDepth 100000 in
set_option maxHeartbeats 4000000 in
theorem enc16_far {w : World} {c : RcV} (h : c.In w) {X : Int} (hX : chR c.r = X) {P : List UInt8} (hP : (if OkR c.r then enR c.r else []) = P) : Calls Tryz.prog 80 #[aggR c] w (MakesG16 w X P) := by
  obtain ⟨⟨kd, ky, ln, st⟩, vs⟩ := c
  have HR := h.rs
  obtain ⟨a, cp, e⟩ := HR.form
  simp only at e HR hX hP
  subst e
  obtain ⟨w1, hw1⟩ : ∃ w1, w1 = w.alloc (.cells #[.int .i64 kd, .string ⟨ky.toArray⟩, .int .i64 ln, .slice a st.length cp] 38) := ⟨_, rfl⟩
  have B1 : Below w.heap.size w w1 := by rw [hw1]; exact belR _ _
  have s1 : w.heap.size < w1.heap.size := by rw [hw1]; show w.heap.size < (w.heap.push _).size; rw [Array.size_push]; exact Nat.lt_succ_self _
  have c0 : w1.cell? ⟨w.heap.size, 0, none⟩ = some (.int .i64 kd) := by rw [hw1, World.cell?_alloc_new]; rfl
  have c1 : w1.cell? ⟨w.heap.size, 1, none⟩ = some (.string ⟨ky.toArray⟩) := by rw [hw1, World.cell?_alloc_new]; rfl
  have c2 : w1.cell? ⟨w.heap.size, 2, none⟩ = some (.int .i64 ln) := by rw [hw1, World.cell?_alloc_new]; rfl
  have c3 : w1.cell? ⟨w.heap.size, 3, none⟩ = some (.slice a st.length cp) := by rw [hw1, World.cell?_alloc_new]; rfl
  have KP : Hid (∀ W, Below w1.heap.size w1 W → W.cell? ⟨w.heap.size, 0, none⟩ = some (.int .i64 kd) ∧ W.cell? ⟨w.heap.size, 1, none⟩ = some (.string ⟨ky.toArray⟩) ∧ W.cell? ⟨w.heap.size, 2, none⟩ = some (.int .i64 ln) ∧ W.cell? ⟨w.heap.size, 3, none⟩ = some (.slice a st.length cp)) := fun W b =>
    ⟨(b.cell (p := ⟨w.heap.size, 0, none⟩) s1).trans c0, (b.cell (p := ⟨w.heap.size, 1, none⟩) s1).trans c1, (b.cell (p := ⟨w.heap.size, 2, none⟩) s1).trans c2, (b.cell (p := ⟨w.heap.size, 3, none⟩) s1).trans c3⟩
  have K := chk16_any (h.below B1) hX
  have HR1 := HR.below B1
  clear h HR
  show Calls Tryz.prog 80 #[.agg #[.int .i64 kd, .string ⟨ky.toArray⟩, .int .i64 ln, .slice a st.length cp]] w _
  go_enter Tryz.func80, Tryz.ntmps80
  go_wp2_with fail
  rw [← hw1]
  clear hw1 c0 c1 c2 c3
  refine K.mono ?_
  rintro _ w2 ⟨rfl, B2⟩
  clear K
  by_cases hok : OkR ⟨kd, ky, ln, st⟩
  rotate_left
  · rw [chR, if_neg hok] at hX
    rw [if_neg hok] at hP
    subst hX
    clear KP HR1 hok
    go_wp2
    exact bodyPost_ret (v := .tuple #[.slice none 0 0, .int .i64 1]) (by simp [results, Tryz.results80, go_sem]) rfl (nilG16 (B1.step16 B2 (Nat.le_of_lt s1)) hP.symm)
  rw [chR, if_pos hok] at hX
  rw [if_pos hok] at hP
  subst hX
  have HP : Hid (enR ⟨kd, ky, ln, st⟩ = P) := hP
  clear hP
  obtain ⟨k0, k1, k2, k3⟩ := KP.out w2 B2
  have HR2 := HR1.below B2
  have oN : OwnP w2 w2.heap.size 5 (.slice none 0 0) [] := World.ownsRow_nil w2 w2.heap.size 5 1
  have K2 := wrec16_any (c := ⟨⟨kd, ky, ln, st⟩, .slice a st.length cp⟩) oN (Nat.le_refl _) hok (fun W V g => HR2.below (g.below (Below.refl _ _) (Nat.le_refl _) oN)) (by show 0 ≤ _; omega)
  clear hok HR1 KP HR2
  go_wp2_with fail
  refine K2.mono ?_
  rintro _ w3 ⟨v3, rfl, o3, g3⟩
  clear K2
  have HF : Hid (Rd w3 v3 P ∧ FarV w v3 ∧ Below w.heap.size w w3) := by
    have fv : FarV w2 v3 := FarV.own o3
    have b3 : Below w2.heap.size w2 w3 := g3.below (Below.refl _ _) (Nat.le_refl _) oN
    refine ⟨?_, fun x n c e => (fv x n c e).imp id fun q => Nat.le_trans (Nat.le_trans (Nat.le_of_lt s1) B2.size) q, (B1.step16 B2 (Nat.le_of_lt s1)).step16 b3 (Nat.le_trans (Nat.le_of_lt s1) B2.size)⟩
    rw [List.nil_append] at o3
    rw [← HP.out]
    exact Rd.owned o3
  obtain ⟨q0, q1, e⟩ := owns_form o3
  subst e
  clear o3 g3 k0 k1 k2 k3 oN
  go_wp2
  exact bodyPost_ret (v := .tuple #[.slice q0 _ q1, .int .i64 0]) (by simp [results, Tryz.results80, go_sem]) rfl ⟨_, rfl, HF.out.1, HF.out.2.1, HF.out.2.2⟩
end Go.Proofs.YtclieefpnbdbjaaGreat.Gf

namespace Go.Proofs.YtclieefpnbdbjaaGreat.Gf
set_option linter.unusedVariables false
set_option linter.unusedSimpArgs false
open Go.RowKit
/-- a bool that says so -/
def Says16 (p : Prop) (w : World) (e : Ending) (w' : World) : Prop := ∃ x : Bool, e = .returned (.bool x) ∧ (x = true ↔ p) ∧ Below w.heap.size w w'
theorem Says16.yes {p : Prop} (h : p) {w w' : World} {x : Bool} (e : x = true) (b : Below w.heap.size w w') : Says16 p w (.returned (.bool x)) w' := ⟨x, rfl, ⟨fun _ => h, fun _ => e⟩, b⟩
theorem Says16.no {p : Prop} (h : ¬ p) {w w' : World} {x : Bool} (e : x = false) (b : Below w.heap.size w w') : Says16 p w (.returned (.bool x)) w' := ⟨x, rfl, ⟨fun q => (by rw [e] at q; cases q), fun q => absurd q h⟩, b⟩
end Go.Proofs.YtclieefpnbdbjaaGreat.Gf

namespace Go.Proofs.YtclieefpnbdbjaaGreat.Gf
set_option linter.unusedVariables false
set_option linter.unusedSimpArgs false
open Go.RowKit
set_option maxRecDepth 100000 in
theorem put16_any {c : ObV} {w : World} (h : RdI w c.vs c.o.st) : Calls Tryz.prog 122 #[aggO c] w fun e w' => e = .returned (aggR ⟨putR c.o, c.vs⟩) ∧ Below w.heap.size w w' := by
  obtain ⟨⟨ky, ln, ep, st⟩, vs⟩ := c
  obtain ⟨a, n, e⟩ := h.form
  simp only at e
  subst e
  clear h
  show Calls Tryz.prog 122 #[.agg #[.string ⟨ky.toArray⟩, .int .i64 ln, .int .i64 ep, .slice a st.length n]] w _
  go_enter Tryz.func122, Tryz.ntmps122
  go_wp2
  obtain ⟨W, hW⟩ : ∃ W, W = (w.alloc (.cells #[.string ⟨ky.toArray⟩, .int .i64 ln, .int .i64 ep, .slice a st.length n] 92)).alloc (.cells #[.int .i64 1, .string ⟨ky.toArray⟩, .int .i64 ln, .slice a st.length n] 38) := ⟨_, rfl⟩
  have z : ∀ j, W.cell? ⟨w.heap.size + 1, j, none⟩ = #[Value.int .i64 1, .string ⟨ky.toArray⟩, .int .i64 ln, .slice a st.length n][j]? := fun j => by
    rw [hW, show w.heap.size + 1 = (w.alloc (.cells #[.string ⟨ky.toArray⟩, .int .i64 ln, .int .i64 ep, .slice a st.length n] 92)).heap.size by simp, World.cell?_alloc_new]
  have b : Below w.heap.size w W := by rw [hW]; exact (belR _ _).trans ((belR _ _).mono (by simp))
  have z0 := z 0
  have z1 := z 1
  have z2 := z 2
  have z3 := z 3
  simp at z0 z1 z2 z3
  rw [← hW]
  exact bodyPost_ret (v := .agg #[.int .i64 1, .string ⟨ky.toArray⟩, .int .i64 ln, .slice a st.length n]) (by simp [results, Tryz.results122, go_sem, z0, z1, z2, z3]) rfl ⟨rfl, b⟩
theorem ObAt.in_put {w : World} {b off : Nat} {c : ObV} (h : ObAt w b off c) : RcV.In w ⟨putR c.o, c.vs⟩ := ⟨by show (Lit.int .i64 1).wf = true; decide, h.wl, h.ky, h.rs, h.wi⟩
set_option maxRecDepth 100000 in
set_option maxHeartbeats 4000000 in
theorem mbt16_any {w : World} {v : Value} {L : List ObV} (h : RdO w v L) (hs : ∀ i, i < L.length → (L.getD i default).o.st.length ≤ 1000000) : Calls Tryz.prog 119 #[v] w (Says16 (MayL (oL L)) w) := by
  obtain ⟨a, cp, rfl⟩ := h.form
  by_cases h5 : (L.length : Int) > 64
  · have N : Hid (¬ MayL (oL L)) := fun q => by have := q.1; rw [oL_length] at this; omega
    clear h hs
    go_enter Tryz.func119, Tryz.ntmps119
    go_wp2
    go_ret
    exact Says16.no N.out rfl (Below.refl _ _)
  go_enter Tryz.func119, Tryz.ntmps119
  go_wp2
  go_loopw [3, 11] (fun n i wr => ∃ r : Nat, r ≤ L.length ∧ i = .int .i64 (r : Int) ∧ n = .int .i64 ((cntO ((oL L).take r) : Nat) : Int) ∧ Hid (Below w.heap.size w wr) ∧ Hid (Up16 L r) ∧ Hid (cntO ((oL L).take r) ≤ r * 1000000)) (fun _ i _ => L.length - (intOf i).toNat)
  case atStart => exact ⟨0, Nat.zero_le _, rfl, rfl, Below.refl _ _, fun j hj => absurd hj (Nat.not_lt_zero _), Nat.zero_le _⟩
  case round =>
    obtain ⟨r, hr, rfl, rfl, hB, hup, hcn⟩ := hrel
    by_cases hlt : r < L.length
    · have hlt' : (r : Int) < (L.length : Int) := by omega
      obtain ⟨b, off, rfl, hb, cz⟩ := (h.below hB.out).at hlt
      have hsr := hs r hlt
      have CT := cnt_take hlt
      have CN := hcn.out
      have HU : Hid (OkO (L.getD r default).o → (0 < r → upK (L.getD (r - 1) default).o.key (L.getD r default).o.key = true) → Up16 L (r + 1)) := fun q1 q2 => up_step hup.out q1 q2
      have HN : Hid (¬ OkO (L.getD r default).o → ¬ MayL (oL L)) := fun q k => q ((may_up.1 k).2.1 r hlt).1
      have HK : Hid (0 < r → upK (L.getD (r - 1) default).o.key (L.getD r default).o.key = false → ¬ MayL (oL L)) := fun q1 q2 k => by
        have := ((may_up.1 k).2.1 r hlt).2 q1
        rw [q2] at this; cases this
      have PV : Hid (0 < r → ∃ k1 : List UInt8, k1 = (L.getD (r - 1) default).o.key ∧ wr.cell? ⟨b, off + (r - 1) * 4, none⟩ = some (.string ⟨k1.toArray⟩)) := fun q => by
        obtain ⟨b', off', e, _, cz'⟩ := (h.below hB.out).at (i := r - 1) (by omega)
        simp at e
        obtain ⟨rfl, rfl⟩ := e
        exact ⟨_, rfl, cz'.c0⟩
      have PK := put16_any (c := L.getD r default) (w := wr.alloc (.cells #[sv (L.getD r default).o.key, .int .i64 (L.getD r default).o.len, .int .i64 (L.getD r default).o.ep, (L.getD r default).vs] 92)) (cz.rs.below (belR _ _))
      have IN := cz.in_put
      generalize L.getD r default = c at cz hsr CT HU HN HK PK IN
      obtain ⟨⟨ky, ln, ep, st⟩, vs⟩ := c
      obtain ⟨a2, c2, e⟩ := cz.rs.form
      simp only at e hsr CT HU HN HK
      subst e
      have z0 : wr.cell? ⟨b, off + r * 4, none⟩ = some (.string ⟨ky.toArray⟩) := cz.c0
      have z1 : wr.cell? ⟨b, off + r * 4 + 1, none⟩ = some (.int .i64 ln) := cz.c1
      have z2 : wr.cell? ⟨b, off + r * 4 + 2, none⟩ = some (.int .i64 ep) := cz.c2
      have z3 : wr.cell? ⟨b, off + r * 4 + 3, none⟩ = some (.slice a2 st.length c2) := cz.c3
      clear cz hcn
      obtain ⟨w1, hw1⟩ : ∃ w1, w1 = wr.alloc (.cells #[.string ⟨ky.toArray⟩, .int .i64 ln, .int .i64 ep, .slice a2 st.length c2] 92) := ⟨_, rfl⟩
      have PK1 : Calls Tryz.prog 122 #[.agg #[.string ⟨ky.toArray⟩, .int .i64 ln, .int .i64 ep, .slice a2 st.length c2]] w1 (fun e w' => e = .returned (.agg #[.int .i64 1, .string ⟨ky.toArray⟩, .int .i64 ln, .slice a2 st.length c2]) ∧ Below w1.heap.size w1 w') := by rw [hw1]; exact PK
      have B1 : Below wr.heap.size wr w1 := by rw [hw1]; exact belR _ _
      have y2 : w1.cell? ⟨wr.heap.size, 2, none⟩ = some (.int .i64 ep) := by rw [hw1, World.cell?_alloc_new]; rfl
      have y0 : w1.cell? ⟨wr.heap.size, 0, none⟩ = some (.string ⟨ky.toArray⟩) := by rw [hw1, World.cell?_alloc_new]; rfl
      have y3 : w1.cell? ⟨wr.heap.size, 3, none⟩ = some (.slice a2 st.length c2) := by rw [hw1, World.cell?_alloc_new]; rfl
      have s1 : wr.heap.size < w1.heap.size := by rw [hw1]; show wr.heap.size < (wr.heap.push _).size; rw [Array.size_push]; exact Nat.lt_succ_self _
      clear PK
      go_wp2_with fail
      rw [← hw1]
      clear hw1
      refine PK1.mono ?_
      rintro _ w2 ⟨rfl, B2⟩
      clear PK1
      go_wp2_with fail
      have KC := chk16_any ((IN.below B1).below B2) rfl
      refine KC.mono ?_
      rintro _ w3 ⟨rfl, B3⟩
      have B13 : Below w1.heap.size w1 w3 := B2.step16 B3 B2.size
      have x0 : w3.cell? ⟨wr.heap.size, 0, none⟩ = some (.string ⟨ky.toArray⟩) := (B13.cell (p := ⟨wr.heap.size, 0, none⟩) s1).trans y0
      have x2 : w3.cell? ⟨wr.heap.size, 2, none⟩ = some (.int .i64 ep) := (B13.cell (p := ⟨wr.heap.size, 2, none⟩) s1).trans y2
      have x3 : w3.cell? ⟨wr.heap.size, 3, none⟩ = some (.slice a2 st.length c2) := (B13.cell (p := ⟨wr.heap.size, 3, none⟩) s1).trans y3
      have Br3 : Below wr.heap.size wr w3 := B1.step16 B13 B1.size
      have BF : Hid (Below w.heap.size w w3) := hB.out.step16 Br3 hB.out.size
      have PV3 : Hid (0 < r → ∃ k1 : List UInt8, k1 = (L.getD (r - 1) default).o.key ∧ w3.cell? ⟨b, off + (r - 1) * 4, none⟩ = some (.string ⟨k1.toArray⟩)) := fun q => by
        obtain ⟨k1, e1, c1⟩ := PV.out q
        exact ⟨k1, e1, (Br3.cell (p := ⟨b, off + (r - 1) * 4, none⟩) hb).trans c1⟩
      clear KC IN z0 z1 z2 z3 y0 y2 y3 B1 B2 B3 B13 Br3 PV hB s1
      by_cases hok : OkR (putR ⟨ky, ln, ep, st⟩)
      rotate_left
      · rw [show chR (putR ⟨ky, ln, ep, st⟩) = 1 from if_neg hok]
        have N : Hid (¬ MayL (oL L)) := HN.out fun q => hok q.1
        clear HN HK HU hok PV3 x0 x2 x3
        go_wp2
        go_ret
        exact Says16.no N.out rfl BF.out
      rw [show chR (putR ⟨ky, ln, ep, st⟩) = 0 from if_pos hok]
      go_wp2_with fail
      by_cases hep : OkN ep
      rotate_left
      · refine (may16_any (decide_eq_false hep)).mono ?_
        rintro _ w4 ⟨rfl, rfl⟩
        have N : Hid (¬ MayL (oL L)) := HN.out fun q => hep q.2
        clear HN HK HU hok PV3 x0 x2 x3
        go_wp2
        go_ret
        exact Says16.no N.out rfl BF.out
      refine (may16_any (decide_eq_true hep)).mono ?_
      rintro _ w4 ⟨rfl, rfl⟩
      have HU2 : Hid ((0 < r → upK (L.getD (r - 1) default).o.key ky = true) → Up16 L (r + 1)) := HU.out ⟨hok, hep⟩
      clear HU HN hok hep x2
      have CE : Hid (((cntO ((oL L).take r) : Nat) : Int) + (st.length : Int) = ((cntO ((oL L).take (r + 1)) : Nat) : Int)) := by show _ = _; omega
      have CB : Hid (cntO ((oL L).take (r + 1)) ≤ (r + 1) * 1000000) := by show _ ≤ _; omega
      have CW : IntKind.i64.wrap (((cntO ((oL L).take r) : Nat) : Int) + (st.length : Int)) = ((cntO ((oL L).take r) : Nat) : Int) + (st.length : Int) := by rw [IntKind.wrap_i64]; omega
      clear CT CN
      generalize cntO ((oL L).take r) = n0 at CE CW
      rcases r with _ | s
      · have HU3 : Hid (Up16 L (0 + 1)) := HU2.out fun q => absurd q (Nat.lt_irrefl _)
        clear HK HU2 hup PV3 x0
        go_wp2_with fail
        go_quiet (fail)
        have x3' : (w4.drewN nq).cell? ⟨wr.heap.size, 3, none⟩ = some (.slice a2 st.length c2) := x3
        have BF' : Hid (Below w.heap.size w (w4.drewN nq)) := BF.out.drewN nq
        clear x3 BF
        go_wp2
        go_roundw
        case rel => exact ⟨0 + 1, by omega, by first | rfl | go_num, by rw [← CE.out], BF', HU3, CB⟩
        case measure => simp [intOf]; omega
      · obtain ⟨k1, e1, c1⟩ := PV3.out (Nat.succ_pos _)
        rw [← e1] at HK HU2
        rw [Nat.add_sub_cancel] at c1
        have R0 : ((s : Nat) : Int) + 1 > 0 := by omega
        have R2 : (s : Int) < (L.length : Int) := by omega
        clear e1 hup PV3
        go_wp2_with fail
        go_quiet (fail)
        have x3' : (w4.drewN nq).cell? ⟨wr.heap.size, 3, none⟩ = some (.slice a2 st.length c2) := x3
        have BF' : Hid (Below w.heap.size w (w4.drewN nq)) := BF.out.drewN nq
        clear x3 BF x0 c1
        rw [lessK]
        by_cases hu : upK k1 ky = true
        · have HU3 : Hid (Up16 L (s + 1 + 1)) := HU2.out fun _ => hu
          rw [hu]
          clear HK HU2 hu
          go_wp2
          go_roundw
          case rel => exact ⟨s + 1 + 1, by omega, by first | rfl | go_num, by rw [← CE.out], BF', HU3, CB⟩
          case measure => simp [intOf]; omega
        · have hu' : upK k1 ky = false := by simpa using hu
          have N : Hid (¬ MayL (oL L)) := HK.out (Nat.succ_pos _) hu'
          rw [hu']
          clear HK HU2 hu hu'
          go_wp2
          go_ret
          exact Says16.no N.out rfl BF'.out
    · obtain rfl : r = L.length := by omega
      have hge : ¬ (L.length : Int) < (L.length : Int) := by omega
      have EC : cntO ((oL L).take L.length) = cntO (oL L) := by rw [← oL_length, List.take_length]
      rw [EC]
      have YN : Hid (MayL (oL L) ↔ cntO (oL L) ≤ 256) := ⟨fun q => q.2.2, fun q => may_up.2 ⟨by omega, hup.out, q⟩⟩
      have BF := hB.out
      clear EC hup hcn h hs hB
      generalize cntO (oL L) = n0 at YN
      by_cases hn : (n0 : Int) ≤ 256
      · have Y : Hid (MayL (oL L)) := YN.out.2 (by omega)
        clear YN
        go_wp2
        go_ret
        exact Says16.yes Y.out rfl BF
      · have N : Hid (¬ MayL (oL L)) := fun q => hn (by have := YN.out.1 q; omega)
        clear YN
        go_wp2
        go_ret
        exact Says16.no N.out rfl BF
end Go.Proofs.YtclieefpnbdbjaaGreat.Gf
