/- TEXTS JOINED: ReConv, ReGrM, ReCB, ReStr, ReEn. -/
import Derived.Laws.IdiomStrings
import Derived.Laws.AppendOwn
import Derived.Test.YtclieefpnbdbjaaGreatTome18
import Derived.Test.YtclieefpnbdbjaaGreatTome4
import Derived.Lib.AppendStr
import Derived.Test.YtclieefpnbdbjaaGreatTome9
namespace Go.Proofs.YtclieefpnbdbjaaGreat.Gf
set_option linter.unusedVariables false
set_option linter.unusedSimpArgs false
open Go.RowKit
theorem conv_key (W : World) (y : List UInt8) (h : y.length ≤ maxLen) : ∃ c U, (convert 9 42 (.string ⟨y.toArray⟩)).run Tryz.prog W = .ok (.slice (some ⟨W.heap.size, 0, none⟩) y.length c) U ∧ Rd U (.slice (some ⟨W.heap.size, 0, none⟩) y.length c) y ∧ Below W.heap.size W U ∧ W.heap.size < U.heap.size := by
  obtain ⟨c, hc⟩ : ∃ c, c = grownCap W y.length 0 5 := ⟨_, rfl⟩
  have r := run_bytes_of_string (P := Tryz.prog) W 9 42 5 ⟨y.toArray⟩ Tryz.underlying9 Tryz.underlying42 Tryz.underlying5
  have e : (⟨y.toArray⟩ : ByteArray).size = y.length := by show y.toArray.size = _; simp
  rw [e, ← hc] at r
  have c1 : y.length ≤ c := by rw [hc]; exact grownCap_ge _ _ _ _
  have c2 : c ≤ maxLen := by rw [hc]; exact grownCap_le_maxLen _ _ _ _ h
  have B : Below W.heap.size W (W.drew.alloc (.cells (bytesRow ⟨y.toArray⟩ c) 5 ((bytesRow ⟨y.toArray⟩ c).size, (bytesRow ⟨y.toArray⟩ c).size + 1))) := ((Below.refl _ W).drew).alloc (Nat.le_refl _) _
  have s : W.heap.size < (W.drew.alloc (.cells (bytesRow ⟨y.toArray⟩ c) 5 ((bytesRow ⟨y.toArray⟩ c).size, (bytesRow ⟨y.toArray⟩ c).size + 1))).heap.size := by
    show W.heap.size < (W.heap.push _).size
    rw [Array.size_push]; exact Nat.lt_succ_self _
  refine ⟨c, _, r, ?_, B, s⟩
  by_cases h0 : y = []
  · subst h0
    exact Or.inl ⟨_, c, rfl, rfl, c2, fun q => by cases q⟩
  · refine Or.inr ⟨W.heap.size, 0, c, h0, rfl, c1, c2, s, fun i hi => ?_⟩
    rw [Nat.zero_add]
    refine (World.cell?_alloc_mark W.drew _ _ _ i).trans ?_
    have hi' : i < y.toArray.size := by simpa using hi
    rw [bytesRow_at ⟨y.toArray⟩ c i hi']
    have : (⟨y.toArray⟩ : ByteArray).data[i] = co y i := by
      show y.toArray[i] = co y i
      unfold co
      simp [List.getD_eq_getElem?_getD, List.getElem?_eq_getElem hi]
    rw [this]
theorem conv_str16 {w : World} {v : Value} {p : List UInt8} (h : Rd w v p) : (convert 42 9 v).run Tryz.prog w = .ok (.string ⟨p.toArray⟩) w := by
  rcases h with ⟨ao, cap, rfl, rfl, _, _⟩ | ⟨b, off, cap, h0, rfl, h1, h2, h3, h4⟩
  · rw [run_convert_bytes_string w 42 9 5 ao 0 cap Tryz.underlying42 Tryz.underlying5 Tryz.underlying9]
    cases ao with
    | none => simp [Conv.bytesToString]; rfl
    | some a => 
      have hl := run_loadCells_list (P := Tryz.prog) w a [] (fun j v hj => by simp at hj)
      rw [run_bytesToString w a 0 cap [] hl]
      rfl
  · refine run_convert_bytes_back w 42 9 5 ⟨b, off, none⟩ cap p Tryz.underlying42 Tryz.underlying5 Tryz.underlying9 (fun j hj => ?_)
    rw [add_at, h4 j hj]
    have : co p j = p[j] := by
      unfold co
      simp [List.getD_eq_getElem?_getD, List.getElem?_eq_getElem hj]
    rw [this]
end Go.Proofs.YtclieefpnbdbjaaGreat.Gf

namespace Go.Proofs.YtclieefpnbdbjaaGreat.Gf
set_option linter.unusedVariables false
set_option linter.unusedSimpArgs false
open Go.RowKit
structure Gro (w : World) (v : Value) (w' : World) (v' : Value) : Prop where
  gr : w.grownBy w' v.ownBlock
  pl : v'.ownBlock = v.ownBlock ∨ ∃ k, v'.ownBlock = some k ∧ w.heap.size ≤ k
theorem Gro.refl (w : World) (v : Value) : Gro w v w v := ⟨World.grownBy.refl _ _, Or.inl rfl⟩
theorem Gro.of {w w' : World} {v v' : Value} (h : w.grownBy w' v.ownBlock) (k : v'.ownBlock = v.ownBlock ∨ v'.ownBlock = some w.heap.size) : Gro w v w' v' :=
  ⟨h, k.imp id fun e => ⟨_, e, Nat.le_refl _⟩⟩
theorem Gro.trans {a b c : World} {u v x : Value} (h : Gro a u b v) (k : Gro b v c x) : Gro a u c x := by
  refine ⟨⟨k.gr.os.trans h.gr.os, k.gr.tape.trans h.gr.tape, k.gr.output.trans h.gr.output, Nat.le_trans h.gr.size k.gr.size, fun i hi hne => ?_⟩, ?_⟩
  · refine (k.gr.block i (Nat.lt_of_lt_of_le hi h.gr.size) fun e => ?_).trans (h.gr.block i hi hne)
    rcases h.pl with q | ⟨j, q, hj⟩
    · exact hne (e.trans q)
    · rw [q] at e
      simp at e
      omega
  · rcases k.pl with q | ⟨j, q, hj⟩
    · rcases h.pl with r | ⟨j, r, hj⟩
      · exact Or.inl (q.trans r)
      · exact Or.inr ⟨j, q.trans r, hj⟩
    · exact Or.inr ⟨j, q, Nat.le_trans h.gr.size hj⟩
theorem Gro.bel {w w' : World} (v : Value) (h : Below w.heap.size w w') : Gro w v w' v := ⟨⟨h.os, h.tape, h.output, h.size, fun k hk _ => h.block k hk⟩, Or.inl rfl⟩
theorem Gro.cell {w w' : World} {v v' : Value} (h : Gro w v w' v') {p : Addr} (hp : p.block < w.heap.size) (hn : v.ownBlock ≠ some p.block) : w'.cell? p = w.cell? p := World.cell?_of_block (w := w) (h.gr.block p.block hp fun e => hn e.symm)
theorem Gro.frozen {w w' : World} {v v' : Value} (h : Gro w v w' v') {p : Addr} (hp : p.block < w.heap.size) (hn : v.ownBlock ≠ some p.block) : w'.frozen? p = w.frozen? p := World.frozen?_of_block (w := w) (h.gr.block p.block hp fun e => hn e.symm)
theorem Gro.ne {w w' : World} {v v' : Value} (h : Gro w v w' v') {b : Nat} (hb : b < w.heap.size) (hn : v.ownBlock ≠ some b) : v'.ownBlock ≠ some b := by
  rcases h.pl with q | ⟨j, q, hj⟩
  · rw [q]; exact hn
  · rw [q]; intro e; simp at e; omega
theorem Gro.below {B e n : Nat} {w0 w w' : World} {v v' : Value} {xs : List Value} (h : Gro w v w' v') (hB : Below B w0 w) (hs : B ≤ w.heap.size) (ho : w.ownsRow B e 1 v n xs) : Below B w0 w' :=
  hB.grown h.gr hs fun q hq => (World.ownsRow.lt ho q hq).1
theorem own_ne {w : World} {B e n : Nat} {v : Value} {xs : List Value} (ho : w.ownsRow B e 1 v n xs) {b : Nat} (hb : w.heap.size ≤ b) : v.ownBlock ≠ some b := fun e => by
  have := (World.ownsRow.lt ho b e).2
  omega
theorem set4 {w : World} {g : Nat} {a b c d x0 x1 x2 x3 : Value} (m0 : w.cell? ⟨g, 0, none⟩ = some x0) (m1 : w.cell? ⟨g, 1, none⟩ = some x1) (m2 : w.cell? ⟨g, 2, none⟩ = some x2) (m3 : w.cell? ⟨g, 3, none⟩ = some x3) :
    Only g w ((((w.setCell ⟨g, 0, none⟩ a).setCell ⟨g, 1, none⟩ b).setCell ⟨g, 2, none⟩ c).setCell ⟨g, 3, none⟩ d) ∧ ((((w.setCell ⟨g, 0, none⟩ a).setCell ⟨g, 1, none⟩ b).setCell ⟨g, 2, none⟩ c).setCell ⟨g, 3, none⟩ d).cell? ⟨g, 0, none⟩ = some a ∧ ((((w.setCell ⟨g, 0, none⟩ a).setCell ⟨g, 1, none⟩ b).setCell ⟨g, 2, none⟩ c).setCell ⟨g, 3, none⟩ d).cell? ⟨g, 1, none⟩ = some b ∧ ((((w.setCell ⟨g, 0, none⟩ a).setCell ⟨g, 1, none⟩ b).setCell ⟨g, 2, none⟩ c).setCell ⟨g, 3, none⟩ d).cell? ⟨g, 2, none⟩ = some c ∧ ((((w.setCell ⟨g, 0, none⟩ a).setCell ⟨g, 1, none⟩ b).setCell ⟨g, 2, none⟩ c).setCell ⟨g, 3, none⟩ d).cell? ⟨g, 3, none⟩ = some d := by
  refine ⟨((((Only.refl _ _).setCell _ _).setCell _ _).setCell _ _).setCell _ _, ?_, ?_, ?_, ?_⟩
  · rw [World.cell?_setCell_other _ _ _ _ (by simp), World.cell?_setCell_other _ _ _ _ (by simp), World.cell?_setCell_other _ _ _ _ (by simp), World.cell?_setCell_same _ _ _ m0]
  · rw [World.cell?_setCell_other _ _ _ _ (by simp), World.cell?_setCell_other _ _ _ _ (by simp), World.cell?_setCell_same _ _ _ ((World.cell?_setCell_other _ _ _ _ (by simp)).trans m1)]
  · rw [World.cell?_setCell_other _ _ _ _ (by simp), World.cell?_setCell_same _ _ _ ((World.cell?_setCell_other _ _ _ _ (by simp)).trans ((World.cell?_setCell_other _ _ _ _ (by simp)).trans m2))]
  · exact World.cell?_setCell_same _ _ _ ((World.cell?_setCell_other _ _ _ _ (by simp)).trans ((World.cell?_setCell_other _ _ _ _ (by simp)).trans ((World.cell?_setCell_other _ _ _ _ (by simp)).trans m3)))
end Go.Proofs.YtclieefpnbdbjaaGreat.Gf

namespace Go.Proofs.YtclieefpnbdbjaaGreat.Gf
set_option linter.unusedVariables false
set_option linter.unusedSimpArgs false
open Go.RowKit
/-- a number's last bytes, the highest first -/
def nb : Nat → Nat → List UInt8
  | 0, _ => []
  | k + 1, n => UInt8.ofNat (n / 2 ^ (8 * k)) :: nb k n
theorem nb_one (n : Nat) : nb 1 n = [UInt8.ofNat n] := by
  show [UInt8.ofNat (n / 1)] = _
  rw [Nat.div_one]
theorem nb_two (n : Nat) : nb 2 n = tw n := by
  show [UInt8.ofNat (n / 256), UInt8.ofNat (n / 1)] = _
  rw [Nat.div_one]; rfl
theorem nb_four (n : Nat) : nb 4 n = fo n := by
  show [UInt8.ofNat (n / 16777216), UInt8.ofNat (n / 65536), UInt8.ofNat (n / 256), UInt8.ofNat (n / 1)] = _
  rw [Nat.div_one]; rfl
theorem cat1_16 {w : World} {base e : Nat} {v : Value} {p : List UInt8} {x : UInt8} (h : w.ownsRow base e 1 v (p.length + 1) (p.map vb ++ [vb x])) : OwnP w base e v (p ++ [x]) := by
  unfold OwnP
  rw [List.length_append, List.map_append]; exact h
theorem num_step {p : Prop} (h : p := by
  clear hx2 e1
  go_wp2_with (at_builtin; (refine wpList_append_rd2 _ rfl (.tmp 14) (.tmp 20) 42 rfl B 5 i0 Tryz.underlying42 hi hz0 hz1 hz2 _ _ _ rfl o1 _ [x] rfl R1 (by simp only [List.length_cons, List.length_nil]; omega) (Nat.le_trans hb C1.gr.size) ?_); intro v3 w3 h3 g3 e3; have o3 := cat1_16 h3; have C3 := C1.trans (Gro.of g3 e3); clear h3 g3 e3 o1 R1 C1)
  go_roundw
  case rel => exact ⟨_, _, by omega, by first | rfl | (go_num), o3, C3, hq2, by show _ ≤ _; rw [List.length_append]; simp only [List.length_cons, List.length_nil]; omega⟩
  case measure => simp [intOf]) : p := h
set_option maxRecDepth 100000 in
set_option maxHeartbeats 2000000 in
theorem num16_any {w : World} {B : Nat} {v : Value} {p : List UInt8} (h : OwnP w B 5 v p) (hb : B ≤ w.heap.size) {n k : Nat} (hk : k ≤ 4) (hl : p.length ≤ 900000) {u z : Int} (hu : u = (n : Int)) (hz : z = (k : Int)) :
    Calls Tryz.prog 120 #[v, .int .i64 u, .int .i64 z] w fun e w' => ∃ v', e = .returned v' ∧ OwnP w' B 5 v' (p ++ nb k n) ∧ Gro w v w' v' := by
  subst hu hz
  obtain ⟨a, c, rfl⟩ := owns_form h
  obtain ⟨i0, hi, hz0, hz1, hz2⟩ := info_parts info_u8
  have e1 : IntKind.i64.wrap ((k : Int) - 1) = (k : Int) - 1 := by rw [IntKind.wrap_i64]; omega
  go_enter Tryz.func120, Tryz.ntmps120
  go_wp2
  go_loopw [0, 7] (fun b i wr => ∃ (r : Nat) (q : List UInt8), r ≤ 4 ∧ i = .int .i64 ((r : Int) - 1) ∧ OwnP wr B 5 b q ∧ Hid (Gro w (.slice a p.length c) wr b) ∧ Hid (q ++ nb r n = p ++ nb k n) ∧ Hid (q.length + r ≤ 900004)) (fun _ i _ => ((intOf i) + 1).toNat)
  case atStart => exact ⟨k, p, hk, rfl, h, Gro.refl _ _, rfl, by show _ ≤ _; omega⟩
  case round =>
    obtain ⟨r, q, hr, rfl, hO, hB, hq, hql⟩ := hrel
    obtain ⟨oa, oc, rfl⟩ := owns_form hO
    rcases r with _ | s
    · have HF : Hid (OwnP wr B 5 (.slice oa q.length oc) (p ++ nb k n) ∧ Gro w (.slice a p.length c) wr (.slice oa q.length oc)) := by
        have e := hq.out
        rw [show nb 0 n = [] from rfl, List.append_nil] at e
        exact ⟨by rw [← e]; exact hO, hB.out⟩
      clear hO hq hB
      go_wp2
      go_ret
      exact ⟨_, rfl, HF.out.1, HF.out.2⟩
    · have hs : s = 0 ∨ s = 1 ∨ s = 2 ∨ s = 3 := by omega
      obtain ⟨x, hx⟩ : ∃ x, Hid (x = UInt8.ofNat (n / 2 ^ (8 * s))) := ⟨_, rfl⟩
      have hx2 : Hid (((n / 2 ^ (8 * s) : Nat) : Int) % 256 = ((x.toNat : Nat) : Int)) := by show _ = _; rw [hx.out, UInt8.toNat_ofNat']; omega
      have hq2 : Hid ((q ++ [x]) ++ nb s n = p ++ nb k n) := by
        rw [← hq.out, hx.out]
        show _ = _
        rw [List.append_assoc]; rfl
      have hl2 := hql.out
      have e2 : IntKind.i64.wrap ((s : Int) - 1) = (s : Int) - 1 := by rw [IntKind.wrap_i64]; omega
      have o1 : OwnP (wr.alloc (.cells #[.int .u8 ((x.toNat : Nat) : Int)] 5)) B 5 (.slice oa q.length oc) q := OwnP.alloc hO _
      have R1 : Rd (wr.alloc (.cells #[.int .u8 ((x.toNat : Nat) : Int)] 5)) (.slice (some ⟨wr.heap.size, 0, none⟩) 1 1) [x] := rd_lit [x] rfl rfl (by decide)
      have C1 : Gro w (.slice a p.length c) (wr.alloc (.cells #[.int .u8 ((x.toNat : Nat) : Int)] 5)) (.slice oa q.length oc) := hB.out.trans (Gro.bel _ (belR _ _))
      clear hO hB hq hx
      rcases hs with rfl | rfl | rfl | rfl
      · have qx : (n : Int) % 256 = ((x.toNat : Nat) : Int) := by have := hx2.out; simp at this; omega
        exact num_step
      · have qx : (n : Int) / 256 % 256 = ((x.toNat : Nat) : Int) := by have := hx2.out; simp at this; omega
        exact num_step
      · have qx : (n : Int) / 65536 % 256 = ((x.toNat : Nat) : Int) := by have := hx2.out; simp at this; omega
        exact num_step
      · have qx : (n : Int) / 16777216 % 256 = ((x.toNat : Nat) : Int) := by have := hx2.out; simp at this; omega
        exact num_step
end Go.Proofs.YtclieefpnbdbjaaGreat.Gf

namespace Go.Proofs.YtclieefpnbdbjaaGreat.Gf
set_option linter.unusedVariables false
set_option linter.unusedSimpArgs false
open Go.RowKit
open Go.Lib
theorem strCells_key (y : List UInt8) : strCells ⟨y.toArray⟩ = y.map vb := by
  unfold strCells
  rfl
theorem run_append_str16 {P : Program} (w : World) (base : Nat) (t u ty e : TypeId) (i : TypeInfo) (ht : P.underlying t = some (.slice e)) (hu : P.underlying u = some .string) (hi : P.info? e = some i) (hz : i.zero = some (.int .u8 0)) (hsize : i.size = 1) (hby : i.bytes = 1)
    (v : Value) (p : List UInt8) (hown : OwnP w base e v p) (y : List UInt8) (hl : p.length + y.length ≤ 1000000) (hbase : base ≤ w.heap.size) :
    ∃ v' w', (Builtin.append_ #[t, u] ty #[v, .string ⟨y.toArray⟩]).run P w = .ok v' w' ∧ OwnP w' base e v' (p ++ y) ∧ Gro w v w' v' := by
  have es : (⟨y.toArray⟩ : ByteArray).size = y.length := by show y.toArray.size = _; simp
  obtain ⟨v', w', hr, h2, h3, h4⟩ := run_append_own_string (P := P) w base t u ty e i ht hu hi hz hsize hby v p.length (p.map vb) hown ⟨y.toArray⟩ (by rw [es]; unfold maxLen; omega) (by rw [es]; omega) hbase
  refine ⟨v', w', hr, ?_, Gro.of h3 ?_⟩
  · unfold OwnP
    rw [List.length_append, List.map_append, ← strCells_key, ← es]; exact h2
  · rcases hown.2 with ⟨rfl, hn⟩ | ⟨g, cap, cur, rfl, hbg, hg, hnc, hcm, hcs, htake⟩
    · by_cases hm : y.length = 0
      · rw [h4.2 ⟨rfl, by rw [es]; exact hm⟩]; exact Or.inl rfl
      · have hr2 := run_append_nil_string (P := P) w t u ty e i (.int .u8 0) ht hu hi hz ⟨y.toArray⟩ (by rw [es]; omega) (by rw [es]; omega) (by rw [hby, es]; omega)
        rw [hr] at hr2
        simp only [Result.ok.injEq] at hr2
        rw [hr2.1]; exact Or.inr rfl
    · by_cases hroom : p.length + y.length ≤ cap
      · have hr2 := run_append_room_string (P := P) w t u ty e i ht hu hi hsize g p.length cap cur hg ⟨y.toArray⟩ (by rw [es]; omega) (by rw [es]; omega)
        rw [hr] at hr2
        simp only [Result.ok.injEq] at hr2
        rw [hr2.1]; exact Or.inl rfl
      · have holds : ∀ j u, (p.map vb)[j]? = some u → w.cell? ((⟨g, 0, none⟩ : Addr).add j) = some u := World.ownsRow.cells hown (g := g) rfl
        have hr2 := run_append_grow_string (P := P) w t u ty e i (.int .u8 0) ht hu hi hz ⟨g, 0, none⟩ p.length cap (p.map vb) (by rw [hsize]; simp) holds ⟨y.toArray⟩ (by rw [es]; omega) (by rw [es]; omega) (by rw [hby, es]; exact growslice_fits (by omega) (by omega))
        rw [hr] at hr2
        simp only [Result.ok.injEq] at hr2
        rw [hr2.1]; exact Or.inr rfl
theorem wpList_append_str16 {P : Program} (w : World) {ops : Array Oper} {rest : List Oper} {o : Oper} {a : Act} {Q : Exit → Act → World → Prop} (hgd : o.guard = none) (sl x : Operand) (t u : TypeId)
    (ho : o.op = .call { callee := .builtin .append, args := #[sl, x], argTypes := #[t, u] })
    (base : Nat) (e : TypeId) (i : TypeInfo) (ht : P.underlying t = some (.slice e)) (hu : P.underlying u = some .string) (hi : P.info? e = some i) (hz : i.zero = some (.int .u8 0)) (hsize : i.size = 1) (hby : i.bytes = 1)
    (v : Value) (p : List UInt8) (hs : a.eval sl = v) (hown : OwnP w base e v p) (y : List UInt8) (hx : a.eval x = .string ⟨y.toArray⟩) (hl : p.length + y.length ≤ 1000000) (hbase : base ≤ w.heap.size)
    (h : ∀ v' w', OwnP w' base e v' (p ++ y) → Gro w v w' v' → wpList P ops Q rest (a.put o.dst v') w') : wpList P ops Q (o :: rest) a w := by
  refine wpList_plain hgd fun K hK => ?_
  obtain ⟨v', w', hr, h2, h3⟩ := run_append_str16 (P := P) w base t u o.type e i ht hu hi hz hsize hby v p hown y hl hbase
  unfold Oper.wp execOp
  simp only [ho, resolve, invoke, builtin, Sem.run_bind, Sem.run_pure, Result.andThen_ok, List.map_toArray, List.map_cons, List.map_nil, hs, hx, hr]
  exact hK _ _ (h v' w' h2 h3)
end Go.Proofs.YtclieefpnbdbjaaGreat.Gf

namespace Go.Proofs.YtclieefpnbdbjaaGreat.Gf
set_option linter.unusedVariables false
set_option linter.unusedSimpArgs false
open Go.RowKit
/-- .. in new memory -/
def MakesG16 (w : World) (X : Int) (p : List UInt8) (e : Ending) (w' : World) : Prop := ∃ v, e = .returned (.tuple #[v, .int .i64 X]) ∧ Rd w' v p ∧ FarV w v ∧ Below w.heap.size w w'
theorem nilG16 {w w' : World} {X : Int} (b : Below w.heap.size w w') {p : List UInt8} (h : p = []) : MakesG16 w X p (.returned (.tuple #[.slice none 0 0, .int .i64 X])) w' := by
  subst h
  exact ⟨_, rfl, Or.inl ⟨none, 0, rfl, rfl, Nat.zero_le _, fun _ => rfl⟩, FarV.nil _ _ _, b⟩
/-- a record and an error -/
def MakesD16 (w : World) (X : Int) (r : RcS) (e : Ending) (w' : World) : Prop := ∃ c : RcV, e = .returned (.tuple #[aggR c, .int .i64 X]) ∧ c.r = r ∧ c.In w' ∧ Below w.heap.size w w' ∧ ∀ k, c.vs.ownBlock = some k → w.heap.size ≤ k
def noR : RcS := ⟨0, [], 0, []⟩
theorem noR_in (w : World) : RcV.In w ⟨noR, .slice none 0 0⟩ := ⟨by decide, by decide, Nat.zero_le _, Or.inl ⟨none, 0, rfl, rfl⟩, fun z hz => by cases hz⟩
end Go.Proofs.YtclieefpnbdbjaaGreat.Gf
