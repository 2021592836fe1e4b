/- TEXTS JOINED: VoKm. -/
import Derived.Test.YtgahaebfgmbckaaGreatChecked
import GoSem.Claim
import GoSem.ClaimJoined
import GoSem.ClaimMapViews
import Derived.JoinedTies
import Derived.KernelRfl
import Derived.WalkKit
import Derived.Deep.QuietTactic
import Derived.BigQuiet
import Derived.WalkLawsBesides
import Derived.WalkSpells
import Derived.OpenShut
import Derived.Laws.AppendOwnNone
import Derived.Deep.AppendLies
import Derived.Deep.Slices
import Derived.Lib.SmallJoins
import Derived.DeepKeys4
import Derived.WideKeyEntry
import Derived.Maps.OwnSet
import Derived.Maps.RangeWalk
import Derived.Maps.Views
import Derived.Test.YtgahaebfgmbckaaGreatRows
namespace Go.Proofs.YtgahaebfgmbckaaGreat.Gf
set_option linter.unusedVariables false
set_option linter.unusedSimpArgs false
open Go.RowKit
open Go.Maps (Keyed)
theorem laid17 : laidOutB Tryz.prog = true := by kernel_rfl
theorem row17 : (87 : TypeId) < Tryz.prog.types.size := of_decide_eq_true (by kernel_rfl)
theorem wide17 : (match Tryz.prog.underlying 87 with | some (.array _ _) | some (.struct _) => true | _ => false) = true := by kernel_rfl
theorem keyAt17 : Tryz.prog.keyTypeAt 2 87 = true := by kernel_rfl
theorem keyTy17 : Tryz.prog.keyType 87 = true := by kernel_rfl
theorem cells17 : Tryz.prog.cellsOf 87 = 2 := by kernel_rfl
theorem cellsi17 : Tryz.prog.cellsOf 3 = 1 := by kernel_rfl
theorem cellss17 : Tryz.prog.cellsOf 9 = 1 := by kernel_rfl
set_option maxRecDepth 100000 in
theorem klaw17 : WideMaps.KeyLaw Tryz.prog 87 := deep_law_laid laid17 (m := 2) (by omega) row17 keyAt17 wide17
theorem keyed17 : Keyed Tryz.prog 87 := Keyed.of_law klaw17
def kV (e : Int) (d : List UInt8) : Value := .agg #[.int .i64 e, .string ⟨d.toArray⟩]
theorem kV_inj {e e' : Int} {d d' : List UInt8} (h : kV e d = kV e' d') : e = e' ∧ d = d' := by
  unfold kV at h
  simp at h
  exact ⟨h.1, h.2⟩
/-- what may be a key -/
def OkK (e : Int) (d : List UInt8) : Prop := (Lit.int .i64 e).wf = true ∧ d.length ≤ maxLen
theorem pos_succ17 {n m : Nat} (h : n < m) : ∃ k, m = k + 1 := ⟨m - 1, by omega⟩
theorem size17 : ∃ k, Tryz.prog.types.size = k + 1 := pos_succ17 row17
theorem key_lits {e : Int} {d : List UInt8} (h : OkK e d) : Tryz.prog.keyLits (Tryz.prog.types.size + 1) 87 [.int .i64 e, .string ⟨d.toArray⟩] = some [.int .i64 e, .string d] := by
  obtain ⟨k, hk⟩ := size17
  have h2 : (⟨d.toArray⟩ : ByteArray).size ≤ maxLen := by show d.toArray.size ≤ _; simpa using h.2
  rw [hk]
  have e1 : ∀ m, Tryz.prog.keyLits (m + 1) 3 [.int .i64 e] = some [.int .i64 e] := fun m => by
    unfold Program.keyLits
    rw [Tryz.underlying3]
    simp [h.1]
  have e2 : ∀ m, Tryz.prog.keyLits (m + 1) 9 [.string ⟨d.toArray⟩] = some [.string d] := fun m => by
    unfold Program.keyLits
    rw [Tryz.underlying9]
    simp [h2]
  unfold Program.keyLits
  rw [Tryz.underlying87]
  simp [cells17, cellsi17, cellss17, e1, e2]
def kL (e : Int) (d : List UInt8) : Lit := .string (keyBytes [.int .i64 e, .string d])
theorem key_of {e : Int} {d : List UInt8} (h : OkK e d) : keyOf Tryz.prog 87 (kV e d) = some (kL e d) := by
  have hf : (kV e d).formed Tryz.prog 87 = true := by
    unfold kV
    simp [Value.formed, Tryz.underlying87, cells17]
  unfold keyOf
  rw [Tryz.underlying87]
  simp only [keyTy17, hf, Bool.and_self, if_true]
  have : (kV e d).cells.toList = [.int .i64 e, .string ⟨d.toArray⟩] := rfl
  rw [this, key_lits h]
  rfl
set_option maxRecDepth 100000 in
theorem key_inv {v : Value} {l : Lit} (h : keyOf Tryz.prog 87 v = some l) : ∃ e d, v = kV e d ∧ OkK e d ∧ l = kL e d := by
  obtain ⟨xs, L, rfl, h1, rfl⟩ := keyOf_top wide17 h
  obtain ⟨k, hk⟩ := size17
  rw [hk] at h1
  unfold Program.keyLits at h1
  rw [Tryz.underlying87] at h1
  simp only at h1
  split at h1
  · rename_i hc
    obtain ⟨xl⟩ := xs
    have hl : xl.length = 2 := by
      have := hc.1
      rw [cells17] at this
      simpa using this
    match xl, hl with
    | [x, y], _ =>
      simp [cellsi17, cellss17] at h1
      cases hx : Tryz.prog.keyLits (k + 1) 3 [x] with
      | none => rw [hx] at h1; cases h1
      | some lx =>
        cases hy : Tryz.prog.keyLits (k + 1) 9 [y] with
        | none => rw [hx, hy] at h1; cases h1
        | some ly =>
          rw [hx, hy] at h1
          simp at h1
          subst h1
          unfold Program.keyLits at hx hy
          rw [Tryz.underlying3] at hx
          rw [Tryz.underlying9] at hy
          have ex : ∃ q e, x = .int q e := by cases x <;> first | exact ⟨_, _, rfl⟩ | (simp at hx)
          have ey : ∃ t : List UInt8, y = .string ⟨t.toArray⟩ := by
            cases y with
            | string t =>
              cases t with
              | mk t =>
                cases t with
                | mk t => exact ⟨t, rfl⟩
            | _ => simp at hy
          obtain ⟨q, e, rfl⟩ := ex
          obtain ⟨t, rfl⟩ := ey
          simp at hx hy
          obtain ⟨⟨rfl, hw⟩, rfl⟩ := hx
          obtain ⟨hs, rfl⟩ := hy
          exact ⟨e, t, rfl, ⟨hw, by have : (⟨t.toArray⟩ : ByteArray).size = t.length := by (show t.toArray.size = _; simp)
                                    omega⟩, rfl⟩
  · cases h1
theorem kL_inj {e e' : Int} {d d' : List UInt8} (h : OkK e d) (h' : OkK e' d') (q : kL e d = kL e' d') : e = e' ∧ d = d' := by
  have a := key_of h
  rw [q] at a
  exact kV_inj (keyed17.inj a (key_of h'))
theorem isK {e : Int} {d : List UInt8} (h : OkK e d) : WideAt.IsKeyLit (kL e d) := keyed17.key (key_of h)
/-- as a map reads: what is there, and how often -/
structure CntD (D : DataW Value) (c : Int → List UInt8 → Nat) : Prop where
  map : Maps.IsMap D
  keys : ∀ kl, Maps.has D kl = true → ∃ e d, OkK e d ∧ kl = kL e d
  has : ∀ e d, OkK e d → (Maps.has D (kL e d) = true ↔ 0 < c e d)
  at_ : ∀ e d, OkK e d → D.atKey (kL e d) (.lit (.int .i64 0)) = .lit (.int .i64 ((c e d : Nat) : Int))
  in_ : ∀ e d, 0 < c e d → OkK e d
theorem CntD.empty : CntD (.map []) (fun _ _ => 0) := ⟨Maps.isMap_empty, fun kl h => by simp [Maps.has] at h, fun e d _ => by simp [Maps.has], fun e d _ => rfl, fun e d h => by omega⟩
theorem CntD.put {D : DataW Value} {c : Int → List UInt8 → Nat} (h : CntD D c) {e : Int} {d : List UInt8} (hk : OkK e d) : CntD (D.put (kL e d) (.lit (.int .i64 ((c e d : Nat) + 1 : Nat)))) (fun x y => c x y + if x = e ∧ y = d then 1 else 0) := by
  refine ⟨h.map.put _ _, fun kl hh => ?_, fun x y hx => ?_, fun x y hx => ?_, fun x y hc => ?_⟩
  · by_cases q : kl = kL e d
    · exact ⟨e, d, hk, q⟩
    · rw [Maps.has_put_other q] at hh
      exact h.keys kl hh
  · by_cases q : x = e ∧ y = d
    · rw [if_pos q, q.1, q.2, Maps.has_put_same h.map (isK hk)]
      exact ⟨fun _ => by omega, fun _ => rfl⟩
    · rw [if_neg q, Maps.has_put_other fun k => q (kL_inj hx hk k)]
      exact h.has x y hx
  · by_cases q : x = e ∧ y = d
    · rw [if_pos q, q.1, q.2, Maps.atKey_put_same h.map (isK hk)]
    · rw [if_neg q, Maps.atKey_put_other fun k => q (kL_inj hx hk k)]
      exact h.at_ x y hx
  · by_cases q : x = e ∧ y = d
    · rw [q.1, q.2]; exact hk
    · rw [if_neg q] at hc
      exact h.in_ x y hc
def CntM (w : World) (b S : Nat) (c : Int → List UInt8 → Nat) : Prop := ∃ D, w.ownsMap Tryz.prog 87 (plainElem Tryz.prog 3) b S D ∧ CntD D c
theorem zero17 (w : World) : (zeroValue 3).run Tryz.prog w = .ok (.int .i64 0) w := by kernel_rfl
theorem CntM.made (w : World) : CntM (w.alloc (.map #[] 0)) w.heap.size 0 (fun _ _ => 0) := ⟨_, World.ownsMap_made _ _ _ _, CntD.empty⟩
theorem CntM.lt {w : World} {b S : Nat} {c : Int → List UInt8 → Nat} (h : CntM w b S c) : b < w.heap.size := by
  obtain ⟨D, h, _⟩ := h
  exact h.lt
theorem CntM.of_block {w w' : World} {b S : Nat} {c : Int → List UInt8 → Nat} (h : CntM w b S c) (he : w'.heap[b]? = w.heap[b]?) : CntM w' b S c := by
  obtain ⟨D, ⟨es, clock, hb, r⟩, r2⟩ := h
  exact ⟨D, ⟨es, clock, he.trans hb, r⟩, r2⟩
theorem setBlock_inj {w : World} {b : Nat} {x y : Obj} {es : Array MapEntry} {clock : Nat} (hb : w.heap[b]? = some (.map es clock)) (h : ChangeMaps.setBlock w b x = ChangeMaps.setBlock w b y) : x = y := by
  have h1 := ChangeMaps.heap_setBlock_same hb x
  rw [h, ChangeMaps.heap_setBlock_same hb y] at h1
  exact (Option.some.inj h1).symm
/-- a look-up finds the one entry at the key -/
theorem look17 {W : World} {b t k e : Nat} {P : Program} (K : WideMaps.KeyLaw P k) (ht : P.underlying t = some (.map k e)) {es : Array MapEntry} {clock : Nat} (hb : W.heap[b]? = some (.map es clock)) (hk : ∀ x ∈ es.toList, ∃ l, keyOf P k x.key = some l) {key u : Value} {kl : Lit} (hkey : keyOf P k key = some kl)
    (hin : ∃ x ∈ es.toList, x.key = key) (hu : ∀ x ∈ es.toList, x.key = key → x.val = u) : (Instr.lookup t (.map (some b)) key false).run P W = .ok u W := by
  rcases K.find W hkey es.toList hk with ⟨h1, h2⟩ | ⟨j, e0, h1, h2, h3⟩
  · obtain ⟨x, hx, hxk⟩ := hin
    exact absurd hxk (h2 x hx)
  · have := hu e0 (List.mem_of_getElem? h2) h3
    simp [Instr.lookup, run_underlying ht, MapKept.run_getObj_map hb, K.check W _ hkey, h1, Result.andThen, this]
section
variable {w : World} {b t k e : Nat} {P : Program} {H : Type} {R : Value → Option (DataW H × List MemPlace)} {es es1 : Array MapEntry} {clock clock1 st : Nat} {key v0 z : Value} {kl : Lit}
theorem one_key (F : WideElems.Fit P k R es clock) {x y : MapEntry} (hx : x ∈ es.toList) (hy : y ∈ es.toList) (h : x.key = y.key) : x = y := entry_eq_of_key (List.pairwise_map.1 F.stamped.2.2) hx hy h
/-- what the entry tells is what is looked up, ahead of it and behind it -/
theorem entry_look (K : WideMaps.KeyLaw P k) (ht : P.underlying t = some (.map k e)) (hz : ∀ u : World, (zeroValue e).run P u = .ok z u) (hb : w.heap[b]? = some (.map es clock)) (F : WideElems.Fit P k R es clock) (hkey : keyOf P k key = some kl)
    (hme : (Instr.mapEntry t (.map (some b)) key).run P w = .ok (.tuple #[v0, goInt st]) (ChangeMaps.setBlock w b (.map es1 clock1))) :
    (Instr.lookup t (.map (some b)) key false).run P w = .ok v0 w ∧ (Instr.lookup t (.map (some b)) key false).run P (ChangeMaps.setBlock w b (.map es1 clock1)) = .ok v0 (ChangeMaps.setBlock w b (.map es1 clock1)) := by
  have hb1 : (ChangeMaps.setBlock w b (.map es1 clock1)).heap[b]? = some (.map es1 clock1) := ChangeMaps.heap_setBlock_same hb _
  rcases K.find w hkey es.toList F.keys with ⟨h1, h2⟩ | ⟨j, e0, h1, h2, h3⟩
  · have r : (Instr.mapEntry t (.map (some b)) key).run P w = .ok (.tuple #[z, goInt clock]) (ChangeMaps.setBlock w b (.map (es.push ⟨key, z, clock⟩) (clock + 1))) := by
      simp [Instr.mapEntry, run_underlying ht, MapKept.run_getObj_map hb, K.check w false hkey, h1, hz, MapKept.run_setObj_map _ hb, Result.andThen, ChangeMaps.setBlock]
    rw [hme] at r
    injection r with r1 r2
    have r3 := setBlock_inj hb r2
    injection r3 with r4 _
    simp at r1
    obtain ⟨rfl, _⟩ := r1
    subst r4
    refine ⟨by simp [Instr.lookup, run_underlying ht, MapKept.run_getObj_map hb, K.check w _ hkey, h1, hz, Result.andThen], look17 K ht hb1 (fun x hx => ?_) hkey ⟨⟨key, v0, clock⟩, by simp, rfl⟩ (fun x hx hxk => ?_)⟩
    · rw [Array.toList_push, List.mem_append] at hx
      rcases hx with hx | hx
      · exact F.keys x hx
      · rw [List.mem_singleton.1 hx]; exact ⟨_, hkey⟩
    · rw [Array.toList_push, List.mem_append] at hx
      rcases hx with hx | hx
      · exact absurd hxk (h2 x hx)
      · rw [List.mem_singleton.1 hx]
  · have hj : es[j]? = some e0 := by simpa using h2
    have hm := List.mem_of_getElem? h2
    have hsame : es.modify j (fun x => { x with key := key }) = es := by
      apply Array.ext'
      rw [Array.toList_modify, ChangeMaps.modify_eq_set _ _ _ _ h2]
      have : ({ e0 with key := key } : MapEntry) = e0 := by rw [← h3]
      rw [this]
      exact WideElems.set_self _ _ _ h2
    have r : (Instr.mapEntry t (.map (some b)) key).run P w = .ok (.tuple #[e0.val, goInt e0.born]) (ChangeMaps.setBlock w b (.map es clock)) := by
      simp [Instr.mapEntry, run_underlying ht, MapKept.run_getObj_map hb, K.check w false hkey, h1, hj, h3, K.stays w hkey, hsame, MapKept.run_setObj_map _ hb, Result.andThen, ChangeMaps.setBlock]
    rw [hme] at r
    injection r with r1 r2
    have r3 := setBlock_inj hb r2
    injection r3 with r4 _
    simp at r1
    obtain ⟨rfl, _⟩ := r1
    subst r4
    exact ⟨look17 K ht hb F.keys hkey ⟨e0, hm, h3⟩ (fun y hy hyk => by rw [one_key F hy hm (hyk.trans h3.symm)]), look17 K ht hb1 F.keys hkey ⟨e0, hm, h3⟩ (fun y hy hyk => by rw [one_key F hy hm (hyk.trans h3.symm)])⟩
/-- 'm[k]++', its four operations: whether the look-up or the entry comes first -/
theorem map_up {D : DataW H} {n : Nat} {val : Value} {d : DataW H} {ps : List MemPlace} (K : WideMaps.KeyLaw P k) (ht : P.underlying t = some (.map k e)) (hz : ∀ u : World, (zeroValue e).run P u = .ok z u) (ho : w.ownsMap P k R b n D) (hn : n < maxLen) (hkey : keyOf P k key = some kl) (hv : R val = some (d, ps)) :
    ∃ v0 st w1 w2, (Instr.lookup t (.map (some b)) key false).run P w = .ok v0 w ∧ (Instr.mapEntry t (.map (some b)) key).run P w = .ok (.tuple #[v0, goInt st]) w1 ∧ (Instr.lookup t (.map (some b)) key false).run P w1 = .ok v0 w1 ∧
      (Instr.entryStore t (.map (some b)) (goInt st) val).run P w1 = .ok () w2 ∧ w2.ownsMap P k R b (n + 1) (D.put kl d) ∧ w.grownBy w2 (some b) := by
  obtain ⟨w2, hup, ho2, hg2⟩ := ho.update (Maps.Keyed.of_law K) ht hn hkey hv
  obtain ⟨es, clock, hb, F, hs, hDe⟩ := ho
  obtain ⟨v0, st, es1, clock1, hme, hv0, hst⟩ := WideElems.entry_then_store K ht hz hb F hkey
  have hb1 : (ChangeMaps.setBlock w b (.map es1 clock1)).heap[b]? = some (.map es1 clock1) := ChangeMaps.heap_setBlock_same hb _
  obtain ⟨es', clock', hes, hmu⟩ := hst _ val hb1
  have e2 : ChangeMaps.setBlock w b (.map es' clock') = w2 := by
    rw [hup] at hmu
    injection hmu with _ h2
    exact h2.symm
  have e3 : ChangeMaps.setBlock (ChangeMaps.setBlock w b (.map es1 clock1)) b (.map es' clock') = ChangeMaps.setBlock w b (.map es' clock') := by
    simp [ChangeMaps.setBlock]
  rw [e3, e2] at hes
  obtain ⟨l1, l2⟩ := entry_look K ht hz hb F hkey hme
  exact ⟨v0, st, _, w2, l1, hme, l2, hes, ho2, hg2⟩
end
theorem CntM.up {w : World} {b S : Nat} {c : Int → List UInt8 → Nat} (h : CntM w b S c) (hS : S < 1000) {e : Int} {d : List UInt8} (hk : OkK e d) (hc : c e d < 1000) :
    ∃ (st : Int) (w1 w2 : World), (Instr.lookup 123 (.map (some b)) (kV e d) false).run Tryz.prog w = .ok (.int .i64 ((c e d : Nat) : Int)) w ∧
      (Instr.mapEntry 123 (.map (some b)) (kV e d)).run Tryz.prog w = .ok (.tuple #[.int .i64 ((c e d : Nat) : Int), .int .i64 st]) w1 ∧
      (Instr.lookup 123 (.map (some b)) (kV e d) false).run Tryz.prog w1 = .ok (.int .i64 ((c e d : Nat) : Int)) w1 ∧
      (Instr.entryStore 123 (.map (some b)) (.int .i64 st) (.int .i64 ((c e d : Int) + 1))).run Tryz.prog w1 = .ok () w2 ∧
      CntM w2 b (S + 1) (fun x y => c x y + if x = e ∧ y = d then 1 else 0) ∧ w.grownBy w2 (some b) := by
  obtain ⟨D, ho, hD⟩ := h
  have hkey := key_of hk
  obtain ⟨c0, hlook, hat, hwc⟩ := ho.lookup_int keyed17 Tryz.underlying123 Tryz.underlying3 (zero17 w) hkey
  rw [hD.at_ e d hk] at hat
  simp at hat
  subst hat
  obtain ⟨v0, st, w1, w2, l1, l2, l3, l4, l5, l6⟩ := map_up (val := .int .i64 ((c e d : Int) + 1)) klaw17 Tryz.underlying123 (fun u => zero17 u) ho (by unfold maxLen; omega) hkey (plainElem_int Tryz.underlying3 (WalkArith.wf_i64 (by omega)))
  have ev : v0 = .int .i64 ((c e d : Nat) : Int) :=
     (Result.ok.inj (hlook.symm.trans l1)).1.symm
  subst ev
  exact ⟨(st : Int), w1, w2, hlook, l2, l3, l4, ⟨_, l5, hD.put hk⟩, l6⟩
end Go.Proofs.YtgahaebfgmbckaaGreat.Gf
