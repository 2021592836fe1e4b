/- TEXTS JOINED: CtCC, CtFr. -/
import Derived.Lib.SliceRun
import Derived.Maps.RangeWalk
import Derived.Laws.EntriesVeiled
import Derived.Shelf.Abstract
import Derived.Test.YtndlfmofjmieaaaPome9
namespace Go.Proofs.Ytndlfmofjmieaaa.Gf
set_option linter.unusedVariables false
set_option linter.unusedSimpArgs false
open Go.RowKit
open Go.Maps (Keyed)
open Go.ChangeMaps Go.MapKept
/-- the closure's variable and its row -/
structure TakeAt (w : World) (tb kb n : Nat) (S : Nat → Bool) : Prop where
  c0 : w.cell? ⟨tb, 0, none⟩ = some (.slice (some ⟨kb, 0, none⟩) n n)
  row : w.rowIs kb 4 n (fun j => .bool (S j))
  ne : tb ≠ kb
  lt : tb < w.heap.size
theorem TakeAt.congr {w : World} {tb kb n : Nat} {S T : Nat → Bool} (h : TakeAt w tb kb n S) (e : ∀ j, j < n → S j = T j) : TakeAt w tb kb n T := ⟨h.c0, h.row.congr fun i hi => by rw [e i hi], h.ne, h.lt⟩
theorem TakeAt.blocks {w w' : World} {tb kb n : Nat} {S : Nat → Bool} (h : TakeAt w tb kb n S) (e1 : w'.heap[tb]? = w.heap[tb]?) (e2 : w'.heap[kb]? = w.heap[kb]?) (l : w.heap.size ≤ w'.heap.size) : TakeAt w' tb kb n S :=
  ⟨(World.cell?_of_block (w := w) (a := ⟨tb, 0, none⟩) e1).trans h.c0, h.row.of_block e2, h.ne, Nat.lt_of_lt_of_le h.lt l⟩
theorem TakeAt.below {w w' : World} {tb kb n : Nat} {S : Nat → Bool} (h : TakeAt w tb kb n S) (b : Below w.heap.size w w') : TakeAt w' tb kb n S := h.blocks (b.block tb h.lt) (b.block kb h.row.lt) b.size
/-- one more taken -/
def tkS (S : Nat → Bool) (s : Int) (j : Nat) : Bool := S j || decide ((j : Int) = s)
def tkX (S : Nat → Bool) (n : Nat) (s : Int) : Bool := decide (0 ≤ s ∧ s < (n : Int)) && !S s.toNat
set_option maxRecDepth 100000 in
set_option maxHeartbeats 1000000 in
theorem ctake19_any {w : World} {tb kb n : Nat} {S : Nat → Bool} (h : TakeAt w tb kb n S) (s : Int) {x : Bool} (hx : tkX S n s = x) :
    Calls Try.prog 67 #[.int .i64 s, .pointer (some ⟨tb, 0, none⟩)] w fun e w' => e = .returned (.bool x) ∧ TakeAt w' tb kb n (tkS S s) ∧ Only kb w w' := by
  have c0 := h.c0
  have HX : Hid (tkX S n s = x) := hx
  clear hx
  by_cases h0 : s < 0
  · obtain rfl : x = false := HX.out.symm.trans (by unfold tkX; rw [decide_eq_false (fun q => by omega)]; rfl)
    have F : Hid (TakeAt w tb kb n (tkS S s)) := h.congr fun j _ => by unfold tkS; rw [decide_eq_false (fun q => by omega), Bool.or_false]
    clear HX h
    go_enter Try.func67, Try.ntmps67
    go_wp2
    go_ret
    exact ⟨rfl, F.out, Only.refl _ _⟩
  obtain ⟨k, rfl⟩ : ∃ k : Nat, s = (k : Int) := ⟨s.toNat, by omega⟩
  by_cases h1 : (k : Int) ≥ (n : Int)
  · obtain rfl : x = false := HX.out.symm.trans (by unfold tkX; rw [decide_eq_false (fun q => by omega)]; rfl)
    have F : Hid (TakeAt w tb kb n (tkS S (k : Int))) := h.congr fun j hj => by unfold tkS; rw [decide_eq_false (fun q => by omega), Bool.or_false]
    clear HX h
    go_enter Try.func67, Try.ntmps67
    go_wp2
    go_ret
    exact ⟨rfl, F.out, Only.refl _ _⟩
  have hk : k < n := by omega
  have hk' : (k : Int) < (n : Int) := by omega
  have cK := h.row.cell hk
  have fK := h.row.frozen k
  have e0 : tkX S n (k : Int) = !S k := by
    unfold tkX
    rw [decide_eq_true ⟨by omega, hk'⟩]
    simp
  rw [e0] at HX
  clear e0
  cases q : S k with
  | true =>
    rw [q] at HX
    obtain rfl : x = false := HX.out.symm
    have F : Hid (TakeAt w tb kb n (tkS S (k : Int))) := h.congr fun j hj => by
      unfold tkS
      by_cases e : j = k
      · rw [e, q]; rfl
      · rw [decide_eq_false (fun q => by omega), Bool.or_false]
    have cK' : w.cell? ⟨kb, k, none⟩ = some (.bool true) := by rw [cK, q]
    clear HX h cK q
    go_enter Try.func67, Try.ntmps67
    go_wp2
    go_ret
    exact ⟨rfl, F.out, Only.refl _ _⟩
  | false =>
    rw [q] at HX
    obtain rfl : x = true := HX.out.symm
    have ne : tb ≠ kb := h.ne
    have F : Hid (TakeAt (w.setCell ⟨kb, k, none⟩ (.bool true)) tb kb n (tkS S (k : Int))) := by
      refine ⟨(World.cell?_setCell_other _ _ _ _ (by simp [ne.symm])).trans c0, (h.row.set k (.bool true)).congr fun j hj => ?_, ne, by have := h.lt; simpa using this⟩
      unfold tkS
      by_cases e : j = k
      · subst e; simp
      · rw [if_neg e, decide_eq_false (fun q => e (by omega)), Bool.or_false]
    have O : Hid (Only kb w (w.setCell ⟨kb, k, none⟩ (.bool true))) := (Only.refl _ _).setCell _ _
    have cK' : w.cell? ⟨kb, k, none⟩ = some (.bool false) := by rw [cK, q]
    clear HX h cK q ne
    go_enter Try.func67, Try.ntmps67
    go_wp2
    go_ret
    exact ⟨rfl, F.out, O.out⟩
/-- what is taken, of the keys that were met -/
def twB (LV : List ObV) (left : Lit → Bool) (j : Nat) : Bool := LV.any fun c => !left (.string c.o.key) && decide ((j : Int) ∈ c.o.st)
theorem twB_start {LV : List ObV} {left : Lit → Bool} (h : ∀ c ∈ LV, left (.string c.o.key) = true) (j : Nat) : twB LV left j = false := by
  unfold twB
  rw [List.any_eq_false]
  intro c hc
  rw [h c hc]
  simp
theorem twB_step {LV : List ObV} {left : Lit → Bool} (hr : Rise (oL LV)) {o : ObV} (ho : o ∈ LV) (hl : left (.string o.o.key) = true) (j : Nat) :
    twB LV (fun z => left z && !z.sameKey (.string o.o.key)) j = (twB LV left j || decide ((j : Int) ∈ o.o.st)) := by
  have hs : ∀ c ∈ LV, (Lit.string c.o.key).sameKey (.string o.o.key) = true → c = o := fun c hc q => by
    have e := WideAt.sameKey_eq q
    simp at e
    have f1 := finV_some hr hc
    have f2 := finV_some hr ho
    rw [e, f2] at f1
    cases f1
    rfl
  have self : (Lit.string o.o.key).sameKey (.string o.o.key) = true := WideAt.sameKey_self trivial
  unfold twB
  rw [Bool.eq_iff_iff]
  simp only [List.any_eq_true, Bool.or_eq_true, Bool.and_eq_true, decide_eq_true_eq, Bool.not_eq_true', Bool.and_eq_false_iff, Bool.not_eq_false']
  constructor
  · rintro ⟨c, hc, q | q, hm⟩
    · exact Or.inl ⟨c, hc, q, hm⟩
    · rw [hs c hc q] at hm; exact Or.inr hm
  · rintro (⟨c, hc, q, hm⟩ | hm)
    · exact ⟨c, hc, Or.inl q, hm⟩
    · exact ⟨o, ho, Or.inr self, hm⟩
theorem twB_end {LV : List ObV} {left : Lit → Bool} (h : ∀ kl, left kl = false) (j : Nat) : twB LV left j = (owK (oL LV) (j : Int)).isSome := by
  have e : (owK (oL LV) (j : Int)).isSome = false ↔ ∀ c ∈ LV, (j : Int) ∉ c.o.st := by
    rw [Option.isSome_eq_false_iff, Option.isNone_iff_eq_none, owK_none]
    constructor
    · intro q c hc; exact q c.o (List.mem_map_of_mem hc)
    · intro q o ho
      obtain ⟨c, hc, rfl⟩ := List.mem_map.1 ho
      exact q c hc
  cases hb : twB LV left j with
  | true =>
    unfold twB at hb
    rw [List.any_eq_true] at hb
    obtain ⟨c, hc, hm⟩ := hb
    rw [h] at hm
    simp at hm
    cases q : (owK (oL LV) (j : Int)).isSome with
    | true => rfl
    | false => exact absurd hm (e.1 q c hc)
  | false =>
    unfold twB at hb
    rw [List.any_eq_false] at hb
    symm
    refine e.2 fun c hc hm => ?_
    have := hb c hc
    rw [h] at this
    simp [hm] at this
theorem invKs (key : Value) (kl : Lit) (h : keyOf Try.prog 9 key = some kl) : ∃ d : List UInt8, key = .string ⟨d.toArray⟩ ∧ kl = .string d := by
  have u : Try.prog.underlying 9 = some .string := by kernel_rfl
  unfold keyOf at h
  rw [u] at h
  simp only at h
  unfold mapKey at h
  cases key <;> simp [u] at h
  rename_i s
  obtain ⟨_, rfl⟩ := h
  exact ⟨s.data.toList, rfl, rfl⟩
theorem ranges_blocks19 {P : Program} {w w' : World} {k b r n cnt : Nat} {R : Value → Option (DataW Value × List MemPlace)} {D : DataW Value} {left : Lit → Bool} (h : w.ranges P k R b r n D left cnt) (hb : w'.heap[b]? = w.heap[b]?) (hr : w'.heap[r]? = w.heap[r]?) : w'.ranges P k R b r n D left cnt := by
  obtain ⟨es, clock, since, seen, c0, h1, F, hs, hD, h2, rest⟩ := h
  exact ⟨es, clock, since, seen, c0, hb.trans h1, F, hs, hD, hr.trans h2, rest⟩
/-- which object an entry holds -/
theorem entry19 {LV : List ObV} {D : DataW Value} (hf : ∀ d, (Maps.has D (.string d) = false ∧ mpF LV d = none) ∨ ∃ v, mpF LV d = some v ∧ Maps.has D (.string d) = true ∧ ∀ z, D.atKey (.string d) z = .held v) {d : List UInt8} {v : Value} (hat : ∀ zd, D.atKey (.string d) zd = .held v) :
    ∃ o ∈ LV, o.o.key = d ∧ v = aggO o := by
  rcases hf d with ⟨h1, h2⟩ | ⟨u, h1, h2, h3⟩
  · have := Maps.has_true_of_atKey hat
    rw [h1] at this
    cases this
  · have e := (hat (.held v)).symm.trans (h3 (.held v))
    simp at e
    subst e
    unfold mpF at h1
    cases q : finV LV d with
    | none => rw [q] at h1; cases h1
    | some o =>
      rw [q] at h1
      simp at h1
      obtain ⟨a, b⟩ := finV_mem q
      exact ⟨o, a, b, h1.symm⟩
/-- what 'taker' hands back -/
def Taker19 (w : World) (n : Nat) (L : List ObS) (e : Ending) (w' : World) : Prop :=
  ∃ tb kb, e = .returned (.func (.func 67) #[] #[.pointer (some ⟨tb, 0, none⟩)]) ∧ TakeAt w' tb kb n (fun j => (owK L (j : Int)).isSome) ∧ w.heap.size ≤ tb ∧ w.heap.size ≤ kb ∧ Below w.heap.size w w'
set_option maxRecDepth 100000 in
set_option maxHeartbeats 4000000 in
theorem ctaker19_any {w : World} {cb mb : Nat} {g : GeoS} {LV : List ObV} {P : Nat → Prop} (h : CatI w cb mb g LV P) {n : Nat} (hn : g.s = (n : Int)) :
    Calls Try.prog 60 #[.pointer (some ⟨cb, 0, none⟩)] w (Taker19 w n (oL LV)) := by
  have n6 : n ≤ 256 := by
    obtain ⟨_, _, _, _, _, _, q, _⟩ := h.gok
    omega
  have H := hidK h
  have x3 : w.cell? ⟨cb, 3, none⟩ = some (.int .i64 (n : Int)) := by rw [← hn]; exact h.ge.2.2.2.1
  have c6 := h.c6
  obtain ⟨u, hmk, hrow, bu⟩ := madeB w n (by omega)
  obtain ⟨V, hV⟩ : ∃ V, V = u.alloc (.cells #[.slice (some ⟨w.heap.size, 0, none⟩) n n] 50) := ⟨_, rfl⟩
  have bV : Below u.heap.size u V := by rw [hV]; exact belL _ _
  have B1 := bu.stepL bV bu.size
  have T1 : TakeAt V u.heap.size w.heap.size n (fun _ => false) := ⟨by rw [hV]; exact World.cell?_alloc_new _ _ _ _, by rw [hV]; exact hrow.alloc _, by have := hrow.lt; omega, by rw [hV]; simp⟩
  have CV := h.below B1
  have c6' : (u.alloc (.cells #[.slice (some ⟨w.heap.size, 0, none⟩) n n] 50)).cell? ⟨cb, 6, none⟩ = some (.map (some mb)) := by rw [← hV]; exact CV.c6
  obtain ⟨D, hown, hk, hf⟩ := CV.mp
  have hown' : (u.alloc (.cells #[.slice (some ⟨w.heap.size, 0, none⟩) n n] 50)).ownsMap Try.prog 9 RV mb (Maps.size D) D := by rw [← hV]; exact hown
  have hrow' := hrow.lt
  clear h hn hown hrow
  go_enter Try.func60, Try.ntmps60
  go_wp2_with (first | (at_range; go_loud (refine wpList_range_own _ rfl _ 70 rfl 9 52 keyed_str under_omap RV mb (Maps.size D) D rfl hown' ?_); intro w0 hrg0 hg0 hs0) | go_in)
  rw [← hV] at hrg0 hg0 hs0
  obtain ⟨it, hit⟩ : ∃ it, Hid (it = V.heap.size) := ⟨_, rfl⟩
  rw [← hit.out] at hrg0
  have eit : (u.alloc (.cells #[.slice (some ⟨w.heap.size, 0, none⟩) n n] 50)).heap.size = it := by rw [hit.out, hV]
  obtain ⟨tb, htb⟩ : ∃ tb, Hid (tb = u.heap.size) := ⟨_, rfl⟩
  obtain ⟨kb, hkb⟩ : ∃ kb, Hid (kb = w.heap.size) := ⟨_, rfl⟩
  have em : it = u.heap.size + 1 := by rw [hit.out, hV]; simp
  have B0 : Below V.heap.size V w0 := ⟨hg0.os, hg0.tape, hg0.output, hg0.size, fun k hk => hg0.block k hk (by simp)⟩
  have B2 := B1.stepL B0 B1.size
  have T2 := T1.below B0
  rw [← htb.out, ← hkb.out] at T2
  have ltb : w.heap.size < u.heap.size := hrow'
  have C0 := H.out.below B2
  have FA : Hid (w.heap.size = kb ∧ kb < tb ∧ it = tb + 1 ∧ cb < kb ∧ mb < kb) := ⟨hkb.out.symm, by rw [hkb.out, htb.out]; exact ltb, by rw [htb.out]; exact em, by rw [hkb.out]; exact H.out.lt, by rw [hkb.out]; exact H.out.mp.lt⟩
  have CF : Hid (∀ X, TurnG (fun x => x = kb ∨ x = it) w0 X → CatI X cb mb g LV P) := fun X t => by
    obtain ⟨q1, q2, q3, q4, q5⟩ := FA.out
    refine C0.turn t (by omega) (by omega) fun c hc x m e ev => ?_
    rcases (H.out.ok c hc).rs.lays x m e ev with q | q
    · exact Or.inl q
    · exact Or.inr (by omega)
  have OFF : Hid (∀ c ∈ LV, ApartG (fun x => x = kb) c.vs) := fun c hc x m e ev => by
    rcases (H.out.ok c hc).rs.lays x m e ev with q | q
    · exact Or.inl q
    · exact Or.inr (by have := FA.out.1; omega)
  have lw0 : it < w0.heap.size := by rw [hs0, hit.out]; omega
  have START : Hid (TakeAt w0 tb kb n (twB LV (Maps.has D))) := T2.congr fun j _ => (twB_start (fun c hc => by
    rcases hf c.o.key with ⟨_, q⟩ | ⟨_, _, q, _⟩
    · have := (keysC_mem (L := LV) (d := c.o.key)).1 (List.mem_map_of_mem hc)
      rw [← mpF_some, q] at this
      cases this
    · exact q) j).symm
  have RISE := hidK H.out.inv.rise
  have HF := hidK hf
  have BW0 := hidK B2
  rw [eit, ← hkb.out, ← htb.out]
  go_frame
  clear hk hown' eit hs0 hg0 hit htb hkb em B0 B2 T2 T1 CV c6' hV bV B1 bu hmk x3 c6 ltb C0 hf H
  go_loopw [22] (fun _ wq => ∃ (left : Lit → Bool) (cn : Nat), wq.ranges Try.prog 9 RV mb it (Maps.size D) D left cn ∧ Hid (TakeAt wq tb kb n (twB LV left)) ∧ Hid (TurnG (fun x => x = kb ∨ x = it) w0 wq)) (fun _ wq => wq.rangeLeft mb it)
  case atStart => exact ⟨_, _, hrg0, START, TurnG.refl _ _⟩
  case round =>
    clear hrg0 START
    obtain ⟨left, cn, hrg, hTk, hT⟩ := hrel
    go_wp2_with (first | (at_next; go_loud (refine wpList_next_ranges _ rfl _ rfl 9 keyed_str RV (fun d : List UInt8 => Value.string ⟨d.toArray⟩) id (fun key kl h => by obtain ⟨d, e, _⟩ := invKs key kl h; exact ⟨d, e⟩) (fun v y _ => ⟨v, rfl⟩) mb it (Maps.size D) D left cn rfl hrg ?_ ?_)) | go_in)
    · intro hc0 hl0
      have FIN : Hid (Taker19 w n (oL LV) (.returned (.func (.func 67) #[] #[.pointer (some ⟨tb, 0, none⟩)])) wr) := by
        obtain ⟨q1, q2, q3, q4, q5⟩ := FA.out
        refine ⟨tb, kb, rfl, hTk.out.congr fun j _ => twB_end hl0 j, by omega, by omega, BW0.out.trans (hT.out.below (fun x hx => by omega) ?_)⟩
        have := BW0.out.size
        omega
      clear hTk hT hrg hl0 hc0 FA CF BW0 HF RISE
      go_wp2
      go_ret
      exact FIN.out
    · intro d v kl yd ys w1 cn1 hkey hlk hv hat hrg1 hlt1 hg1 hs1 hen
      obtain ⟨d', ek, ekl⟩ := invKs _ _ hkey
      have ed : d = d' := by simpa using ek
      subst ed
      subst ekl
      have eyd : yd = .held v := RV_inv hv
      subst eyd
      obtain ⟨o, ho, ek2, ev⟩ := entry19 HF.out (d := d) (v := v) (fun zd => hat zd)
      subst ek2
      subst ev
      obtain ⟨V1, hV1⟩ : ∃ V1, V1 = w1.alloc (.cells #[.string ⟨o.o.key.toArray⟩, .int .i64 o.o.len, .int .i64 o.o.ep, o.vs] 52) := ⟨_, rfl⟩
      have bV1 : Below w1.heap.size w1 V1 := by rw [hV1]; exact belL _ _
      have V3 : V1.cell? ⟨w1.heap.size, 3, none⟩ = some o.vs := by rw [hV1, World.cell?_alloc_new]; rfl
      have g1 : TurnG (fun x => x = kb ∨ x = it) wr w1 := ⟨hg1.os, hg1.tape, hg1.output, hg1.size, fun j hj hne => hg1.block j hj (by intro q; simp at q; exact hne (Or.inr q))⟩
      have hT1 : TurnG (fun x => x = kb ∨ x = it) w0 V1 := (hT.out.trans g1).trans (Below.turnG bV1 _)
      have C1 := CF.out V1 hT1
      have TK1 : TakeAt w1 tb kb n (twB LV left) := hTk.out.blocks (hg1.block tb hTk.out.lt (by have := FA.out; intro q; simp at q; omega)) (hg1.block kb hTk.out.row.lt (by have := FA.out; intro q; simp at q; omega)) (by rw [hs1]; exact Nat.le_refl _)
      have TK2 := hidK (TK1.below bV1)
      have lit1 : it < w1.heap.size := hrg1.lt
      have rV : Hid (V1.ranges Try.prog 9 RV mb it (Maps.size D) D (fun z => left z && !z.sameKey (.string o.o.key)) cn1) := ranges_blocks19 hrg1 (bV1.block mb hrg1.owns.lt) (bV1.block it lit1)
      have RD := hidK (C1.ok o ho).rs
      have OF := hidK (OFF.out o ho)
      have SL := (C1.sts o ho).1
      have STEP : Hid (∀ j, twB LV (fun z => left z && !z.sameKey (.string o.o.key)) j = (twB LV left j || decide ((j : Int) ∈ o.o.st))) := fun j => twB_step RISE.out ho hlk j
      have MEAS : Hid (∀ X : World, X.ranges Try.prog 9 RV mb it (Maps.size D) D (fun z => left z && !z.sameKey (.string o.o.key)) cn1 → X.rangeLeft mb it < wr.rangeLeft mb it) := fun X hX => by rw [hX.left_eq, hrg.left_eq]; exact hlt1
      have LM : Hid (mb < V1.heap.size ∧ it < V1.heap.size) := ⟨Nat.lt_of_lt_of_le hrg1.owns.lt bV1.size, Nat.lt_of_lt_of_le lit1 bV1.size⟩
      have hT2 := hidK hT1
      obtain ⟨sa, sc, evs⟩ := RD.out.form
      obtain ⟨⟨ky, ln, ep, st⟩, vs⟩ := o
      simp only at evs V3 hV1 RD OF STEP rV MEAS SL
      subst evs
      have hen' : (Instr.entry (.pointer (some ⟨it, 0, none⟩))).run Try.prog w1 = .ok (.tuple #[.string ⟨ky.toArray⟩, .agg #[.string ⟨ky.toArray⟩, .int .i64 ln, .int .i64 ep, .slice sa st.length sc]]) w1 := hen
      clear hkey hlk hv hat hrg1 hlt1 hg1 hs1 hen hT1 hT TK1 hTk bV1 g1 C1 hrg HF ho ek lit1 CF BW0 RISE OFF
      go_wp2_with fail
      rw [← hV1]
      clear hen' hV1
      go_wp2_with fail
      clear V3
      go_loopw [28] (fun i wq => ∃ r : Nat, r ≤ st.length ∧ i = .int .i64 (r : Int) ∧ Hid (TakeAt wq tb kb n (fun j => twB LV left j || decide ((j : Int) ∈ st.take r))) ∧ Hid (TurnG (fun x => x = kb) V1 wq)) (fun i _ => st.length - (intOf i).toNat)
      case atStart => exact ⟨0, Nat.zero_le _, rfl, TK2.out.congr fun j _ => by simp, TurnG.refl _ _⟩
      case round =>
        clear TK2
        obtain ⟨r, hr, rfl, hTk, hT⟩ := hrel
        by_cases hlt : r < st.length
        · have hlt' : (r : Int) < (st.length : Int) := by omega
          obtain ⟨b, off, rfl, _, cs⟩ := (RD.out.offG OF.out hT.out).at hlt
          obtain ⟨s, hs⟩ : ∃ s, Hid (st.getD r 0 = s) := ⟨_, rfl⟩
          rw [hs.out] at cs
          obtain ⟨x, hx⟩ : ∃ x, tkX (fun j => twB LV left j || decide ((j : Int) ∈ st.take r)) n s = x := ⟨_, rfl⟩
          have K := ctake19_any hTk.out s hx
          have NX : Hid (∀ X : World, TakeAt X tb kb n (tkS (fun j => twB LV left j || decide ((j : Int) ∈ st.take r)) s) → TakeAt X tb kb n (fun j => twB LV left j || decide ((j : Int) ∈ st.take (r + 1)))) := fun X hX => hX.congr fun j _ => by
            unfold tkS
            rw [Bool.or_assoc]
            congr 1
            rw [List.take_succ_eq_append_getElem hlt, Bool.eq_iff_iff]
            have : st[r] = s := by rw [← hs.out]; simp [List.getD, hlt]
            simp [this]
          clear hx hs hTk
          go_wp2_with fail
          refine K.mono ?_
          clear K
          rintro _ w2 ⟨rfl, t2, o2⟩
          have N2 := hidK (NX.out _ t2)
          have T3 := hidK (hT.out.trans (o2.turnG (G := fun x => x = kb) rfl))
          clear t2 o2 NX hT cs
          go_wp2
          go_roundw
          case rel => exact ⟨r + 1, by omega, by go_num, N2, T3⟩
          case measure => simp [intOf]; omega
        · obtain rfl : r = st.length := by omega
          have hge : ¬ (st.length : Int) < (st.length : Int) := by omega
          have REL : Hid (wr.ranges Try.prog 9 RV mb it (Maps.size D) D (fun z => left z && !z.sameKey (.string ky)) cn1 ∧ TakeAt wr tb kb n (twB LV (fun z => left z && !z.sameKey (.string ky))) ∧ TurnG (fun x => x = kb ∨ x = it) w0 wr) := by
            have q := FA.out
            refine ⟨ranges_blocks19 rV.out (hT.out.block mb LM.out.1 (by omega)) (hT.out.block it LM.out.2 (by omega)), hTk.out.congr fun j _ => ?_, hT2.out.trans (hT.out.more fun x hx => Or.inl hx)⟩
            rw [STEP.out, List.take_length]
          have ME := hidK (MEAS.out _ REL.out.1)
          clear hTk hT STEP MEAS LM hT2 RD OF rV FA
          go_wp2
          go_roundw
          case rel => exact ⟨_, _, REL.out.1, REL.out.2.1, REL.out.2.2⟩
          case measure => exact ME.out
end Go.Proofs.Ytndlfmofjmieaaa.Gf

namespace Go.Proofs.Ytndlfmofjmieaaa.Gf
set_option linter.unusedVariables false
set_option linter.unusedSimpArgs false
open Go.RowKit
/-- the free ones of the first r -/
def frF (L : List ObS) (r : Nat) : List Nat := (List.range r).filter fun i => (owK L (i : Int)).isNone
theorem frF_succ (L : List ObS) (r : Nat) : frF L (r + 1) = frF L r ++ if (owK L (r : Int)).isSome = true then [] else [r] := by
  unfold frF
  rw [List.range_succ, List.filter_append]
  congr 1
  cases e : owK L (r : Int) with
  | none => simp [e]
  | some x => simp [e]
theorem frF_le (L : List ObS) (r : Nat) : (frF L r).length ≤ r := by
  unfold frF
  exact Nat.le_trans (List.length_filter_le _ _) (by simp)
theorem frF_pre (L : List ObS) (r d : Nat) : ∃ M, frF L (r + d) = frF L r ++ M := by
  induction d with
  | zero => exact ⟨[], by simp⟩
  | succ d ih =>
    obtain ⟨M, e⟩ := ih
    exact ⟨_, by rw [← Nat.add_assoc, frF_succ, e, List.append_assoc]⟩
theorem frL_F (g : GeoS) (L : List ObS) : frL g L = (frF L g.s.toNat).map fun (i : Nat) => (i : Int) := by
  unfold frL frF
  rw [List.filter_map]
  rfl
theorem frF_take {g : GeoS} {L : List ObS} {r n : Nat} (hr : r ≤ g.s.toNat) (hn : (frF L r).length = n) : (frL g L).take n = (frF L r).map fun (i : Nat) => (i : Int) := by
  obtain ⟨M, e⟩ := frF_pre L r (g.s.toNat - r)
  rw [show r + (g.s.toNat - r) = g.s.toNat by omega] at e
  rw [frL_F, e, ← List.map_take, ← hn, List.take_left]
theorem frC_F {g : GeoS} {L : List ObS} : frC g L = (frF L g.s.toNat).length := by
  unfold frC
  rw [frL_F, List.length_map]
theorem frF_lec {g : GeoS} {L : List ObS} {r : Nat} (hr : r ≤ g.s.toNat) : (frF L r).length ≤ frC g L := by
  obtain ⟨M, e⟩ := frF_pre L r (g.s.toNat - r)
  rw [show r + (g.s.toNat - r) = g.s.toNat by omega] at e
  rw [frC_F, e, List.length_append]
  omega
def Plan19 (w : World) (X : Int) (R : List Int) (e : Ending) (w' : World) : Prop := ∃ v zs, e = .returned (.tuple #[v, .int .i64 X]) ∧ OwnI w' w.heap.size 3 v zs ∧ toI zs = R ∧ Below w.heap.size w w'
theorem plan_nil {w w' : World} {X : Int} (b : Below w.heap.size w w') : Plan19 w X [] (.returned (.tuple #[.slice none 0 0, .int .i64 X])) w' := ⟨_, [], rfl, OwnI.nil _ _ _, rfl, b⟩
theorem info_int19 : ∃ i, Try.prog.info? 3 = some i ∧ i.zero = some (.int .i64 0) ∧ i.size = 1 ∧ i.bytes = 8 := by
  have h : (Try.prog.info? 3).map (fun i => (i.zero, i.size, i.bytes)) = some (some (.int .i64 0), 1, 8) := by kernel_rfl
  cases e : Try.prog.info? 3 with
  | none => rw [e] at h; cases h
  | some i =>
    rw [e] at h
    simp only [Option.map_some, Option.some.injEq, Prod.mk.injEq] at h
    exact ⟨i, rfl, h.1, h.2.1, h.2.2⟩
theorem neG_pos {g : GeoS} {n : Int} (h : 0 ≤ n) : 0 ≤ neG g n := by
  by_cases q : okG g
  · exact neG_zero q h
  · unfold neG
    rw [if_neg fun k => q k.1]
    exact Int.le_refl _
theorem nodup_at {l : List Int} (h : ∀ j, j < l.length → ∀ k, k < j → l.getD k 0 ≠ l.getD j 0) : l.Nodup := by
  rw [List.Nodup, List.pairwise_iff_getElem]
  intro i j hi hj hij e
  refine h j hj i hij ?_
  simp [List.getD, hi, hj, e]
theorem nodup_not {l : List Int} (h : l.Nodup) {j k : Nat} (hj : j < l.length) (hk : k < j) : l.getD k 0 ≠ l.getD j 0 := by
  rw [List.Nodup, List.pairwise_iff_getElem] at h
  have hk' : k < l.length := by omega
  have := h k j hk' hj hk
  simpa [List.getD, hj, hk'] using this
/-- one place of an object's stripes is well -/
def fitI (g : GeoS) (L : List ObS) (st : List Int) (j : Nat) : Prop := owK L (st.getD j 0) = none ∧ st.getD j 0 < g.s ∧ ∀ k, k < j → st.getD k 0 ≠ st.getD j 0
theorem fit_all {g : GeoS} {L : List ObS} {o : ObS} : fitC g L o ↔ OkR (putR o) ∧ 0 ≤ o.ep ∧ o.ep ≤ 2147483647 ∧ (o.st.length : Int) = neG g o.len ∧ ∀ j, j < o.st.length → fitI g L o.st j := by
  constructor
  · rintro ⟨⟨h1, h2, h3⟩, h4, h5, h6⟩
    refine ⟨h1, h2, h3, h4, fun j hj => ?_⟩
    have hm : o.st.getD j 0 ∈ o.st := by
      rw [show o.st.getD j 0 = o.st[j] by simp [List.getD, hj]]
      exact List.getElem_mem hj
    exact ⟨(h5 _ hm).1, (h5 _ hm).2, fun k hk => nodup_not h6 hj hk⟩
  · rintro ⟨h1, h2, h3, h4, h5⟩
    refine ⟨⟨h1, h2, h3⟩, h4, fun s hs => ?_, nodup_at fun j hj k hk => (h5 j hj).2.2 k hk⟩
    obtain ⟨i, hi, e⟩ := List.getElem_of_mem hs
    have := h5 i hi
    rw [show s = o.st.getD i 0 by rw [← e]; simp [List.getD, hi]]
    exact ⟨this.1, this.2.1⟩
end Go.Proofs.Ytndlfmofjmieaaa.Gf
