/- TEXTS JOINED: VoCE, VoCi, VoKm. -/
import Derived.Test.YtclieefpnbdbjaaGreatRome30
import Derived.DeepKeys4
import Derived.WideKeyEntry
import Derived.Maps.Views
namespace Go.Proofs.YtclieefpnbdbjaaGreat.Gf
set_option linter.unusedVariables false
set_option linter.unusedSimpArgs false
open Go.RowKit Go.Shelf
theorem enters_ask1 : Hid (∀ (args : Array Value) (w : World), Sem.run Tryz.prog (callFunc 161 args) w = .ok (.enter 161 args) w) := enters_of Tryz.func161 (by kernel_rfl) rfl
/-- what asking all disks answers -/
def AskP (w : World) (a : ArS) (ad : Int) (e : Ending) (w' : World) : Prop :=
  (a.off = true ∧ ∃ va n c, e = .returned (.tuple #[.slice va n c, .int .i64 130]) ∧ Below w.heap.size w w') ∨ (a.off = false ∧ ∃ g, e = .returned (.tuple #[.slice (some ⟨g, 0, none⟩) a.D.length a.D.length, .int .i64 0]) ∧ RpRow w' g a.D.length (fun i => rpS (sayV a ad i)) ∧ w.heap.size ≤ g ∧ Below w.heap.size w w')
theorem rdAX_off {a : ArS} {i ad : Int} (h : a.off = true) : rdAX a i ad = 130 := if_pos h
theorem ask_step {a : ArS} {ad : Int} {r : Nat} {V : World} {g n : Nat} (hR : RpRow V g n (fun k => if k = r then (if rdAX a (r : Int) ad = 0 then heS ad (rdAB a (r : Int) ad) else (if r < r then rpS (sayV a ad r) else rpN)) else (if k < r then rpS (sayV a ad k) else rpN))) : RpRow V g n (fun k => if k < r + 1 then rpS (sayV a ad k) else rpN) := hR.congr fun k _ => by
  by_cases e : k = r
  · subst e
    rw [if_pos rfl, if_pos (Nat.lt_succ_self k)]
    by_cases q : rdAX a (k : Int) ad = 0
    · rw [if_pos q, rp_hear q]
    · rw [if_neg q, if_neg (by omega), rp_none q]
  · rw [if_neg e]
    by_cases q : k < r
    · rw [if_pos q, if_pos (by omega)]
    · rw [if_neg q, if_neg (by omega)]
set_option maxRecDepth 100000 in
set_option maxHeartbeats 2000000 in
theorem vask_any {w : World} {ab : Nat} {GA : Nat → Prop} {a : ArS} (h : ArAt w ab GA a) {ad : Int} (ha : (Lit.int .i64 ad).wf = true) : Calls Tryz.prog 114 #[.pointer (some ⟨ab, 0, none⟩), .int .i64 ad] w (AskP w a ad) := by
  have d1 := h.ok.d1
  have d2 := h.ok.d2
  have lG := h.lt
  obtain ⟨W1, hW1⟩ : ∃ W1, W1 = (w.alloc (.cells #[.pointer (some ⟨ab, 0, none⟩)] 27)).alloc (.cells #[.int .i64 ad] 3) := ⟨_, rfl⟩
  obtain ⟨B1, c0, c1, z1⟩ : Below w.heap.size w W1 ∧ W1.cell? ⟨w.heap.size, 0, none⟩ = some (.pointer (some ⟨ab, 0, none⟩)) ∧ W1.cell? ⟨w.heap.size + 1, 0, none⟩ = some (.int .i64 ad) ∧ W1.heap.size = w.heap.size + 2 := by
    obtain ⟨u1, hu1⟩ : ∃ u1, u1 = w.alloc (.cells #[.pointer (some ⟨ab, 0, none⟩)] 27) := ⟨_, rfl⟩
    rw [← hu1] at hW1
    have s1 : u1.heap.size = w.heap.size + 1 := by rw [hu1]; simp
    have b1 : Below w.heap.size w u1 := by rw [hu1]; exact belR _ _
    have b2 : Below u1.heap.size u1 W1 := by rw [hW1]; exact belR _ _
    have k1 : u1.cell? ⟨w.heap.size, 0, none⟩ = some (.pointer (some ⟨ab, 0, none⟩)) := by rw [hu1]; exact World.cell?_alloc_new _ _ _ _
    have k2 : W1.cell? ⟨u1.heap.size, 0, none⟩ = some (.int .i64 ad) := by rw [hW1]; exact World.cell?_alloc_new _ _ _ _
    refine ⟨b1.step16 b2 b1.size, (b2.cell (p := ⟨w.heap.size, 0, none⟩) (by show w.heap.size < _; omega)).trans k1, ?_, ?_⟩
    · rw [← s1]; exact k2
    · have : W1.heap.size = u1.heap.size + 1 := by rw [hW1]; simp
      omega
  have KA := vall_any (h.below B1)
  obtain ⟨n, hn⟩ : ∃ n, Hid (n = a.D.length) := ⟨_, rfl⟩
  rw [← hn.out] at d1 d2 KA
  have mk1 := run_make_replies n (by omega)
  have HA : Hid (ArAt w ab GA a) := h
  clear h
  go_enter Tryz.func114, Tryz.ntmps114
  go_wp2_with fail
  rw [← hW1]
  clear hW1
  go_wp2_with fail
  refine KA.mono ?_
  rintro _ u ⟨g0, rfl, r0, s0, bu⟩
  clear KA
  have mk2 := mk1 u
  obtain ⟨u2, hu2⟩ : ∃ u2, u2 = u.alloc (.cells (madeCells #[.bool false, .bool false, .int .i64 0, .string ⟨#[]⟩] (n * 4)) 215) := ⟨_, rfl⟩
  have R2 : RpRow u2 u.heap.size n (fun _ => rpN) := by rw [hu2]; exact RpRow.made u n
  have bu2 : Below u.heap.size u u2 := by rw [hu2]; exact belR _ _
  have z2 : u2.heap.size = u.heap.size + 1 := by rw [hu2]; simp
  obtain ⟨g, hg⟩ : ∃ g, Hid (g = u.heap.size) := ⟨_, rfl⟩
  rw [← hu2, ← hg.out] at mk2
  rw [← hg.out] at R2 z2
  clear mk1 hu2
  obtain ⟨W, hW⟩ : ∃ W, W = u2.alloc (.cells #[.slice (some ⟨g, 0, none⟩) n n] 173) := ⟨_, rfl⟩
  have bW : Below u2.heap.size u2 W := by rw [hW]; exact belR _ _
  have c2 : W.cell? ⟨u2.heap.size, 0, none⟩ = some (.slice (some ⟨g, 0, none⟩) n n) := by rw [hW]; exact World.cell?_alloc_new _ _ _ _
  have zW : W.heap.size = u2.heap.size + 1 := by rw [hW]; simp
  have B2 : Below w.heap.size w W := ((B1.step16 bu B1.size).step16 bu2 (by have := bu.size; omega)).step16 bW (by have := bu.size; have := bu2.size; omega)
  have zu : w.heap.size + 2 ≤ u.heap.size := by have := bu.size; omega
  have bb : Below W1.heap.size W1 W := (bu.step16 bu2 bu.size).step16 bW (by have := bu.size; have := bu2.size; omega)
  replace c0 := (bb.cell (p := ⟨w.heap.size, 0, none⟩) (by show w.heap.size < _; omega)).trans c0
  replace c1 := (bb.cell (p := ⟨w.heap.size + 1, 0, none⟩) (by show w.heap.size + 1 < _; omega)).trans c1
  have gu := hg.out
  have r1 : W.rowIs g0 3 n (fun i => .int .i64 (i : Int)) := r0.of_block ((bu2.step16 bW bu2.size).block g0 r0.lt)
  have RW : RpRow W g n (fun _ => rpN) := R2.below bW
  have lG0 := r0.lt
  have KE := @veach_any 161 (.pointer (some ⟨w.heap.size, 0, none⟩)) (.pointer (some ⟨w.heap.size + 1, 0, none⟩)) (.pointer (some ⟨u2.heap.size, 0, none⟩)) (some ⟨g0, 0, none⟩) n n (zsN (List.range n)) W (by rw [zsN_length, List.length_range]) (by omega) (fun r => rdAX a (r : Int) ad)
    (fun r V => TurnG (fun k => k = g) W V ∧ RpRow V g n (fun k => if k < r then rpS (sayV a ad k) else rpN)) (fun r V => TurnG (fun k => k = g) W V) enters_ask1
    (fun r V ⟨t, _⟩ => row_rdI (by simp) (r1.of_block (t.block g0 r1.lt (by show ¬ g0 = g; omega))) (fun i hi => by simp [List.getD, hi]) (by omega))
    (fun r V hr ⟨t, R⟩ => by
      have ez : (zsN (List.range n)).getD r 0 = (r : Int) := by rw [zsN_getD]; simp [List.getD, hr]
      rw [ez]
      have hA : ArAt V ab GA a := (HA.out.below B2).keep (fun k hk => t.block k (by have := lG k hk; have := B2.size; omega) (by show ¬ k = g; have := lG k hk; omega)) t.size
      refine (vask1_any hA hr (by omega) ha R (b0 := w.heap.size) (b1 := w.heap.size + 1) (b2 := u2.heap.size) (by omega) (by omega) (by omega)
        ((t.cell (p := ⟨w.heap.size, 0, none⟩) (by show w.heap.size < _; omega) (by show ¬ w.heap.size = g; omega)).trans c0) ((t.cell (p := ⟨w.heap.size + 1, 0, none⟩) (by show w.heap.size + 1 < _; omega) (by show ¬ w.heap.size + 1 = g; omega)).trans c1) ((t.cell (p := ⟨u2.heap.size, 0, none⟩) (by show u2.heap.size < _; omega) (by show ¬ u2.heap.size = g; omega)).trans c2)).mono ?_
      rintro _ V2 ⟨rfl, t2, R2⟩
      exact ⟨rfl, fun _ => t.trans t2, fun _ => ⟨t.trans t2, ask_step R2⟩⟩)
    ⟨TurnG.refl _ _, RW.congr fun i _ => by rw [if_neg (by omega)]⟩
  have FIN : Hid (∀ e V, EachP n (fun r => rdAX a (r : Int) ad) (fun r V => TurnG (fun k => k = g) W V ∧ RpRow V g n (fun k => if k < r then rpS (sayV a ad k) else rpN)) (fun r V => TurnG (fun k => k = g) W V) e V → Below w.heap.size w V ∧ V.cell? ⟨u2.heap.size, 0, none⟩ = some (.slice (some ⟨g, 0, none⟩) n n) ∧ ((a.off = true ∧ e = .returned (.tuple #[.int .i64 0, .int .i64 130])) ∨ (a.off = false ∧ ∃ c : Nat, e = .returned (.tuple #[.int .i64 (c : Int), .int .i64 0]) ∧ RpRow V g n (fun i => rpS (sayV a ad i))))) := by
    have key : ∀ V, TurnG (fun k => k = g) W V → Below w.heap.size w V ∧ V.cell? ⟨u2.heap.size, 0, none⟩ = some (.slice (some ⟨g, 0, none⟩) n n) := fun V t => ⟨B2.trans (t.below (B := w.heap.size) (fun k hk => by subst hk; omega) B2.size), (t.cell (p := ⟨u2.heap.size, 0, none⟩) (by show u2.heap.size < _; omega) (by show ¬ u2.heap.size = g; omega)).trans c2⟩
    rintro e V (⟨r, hr, x1, x2, rfl, t⟩ | ⟨x2, rfl, t, R⟩)
    · refine ⟨(key V t).1, (key V t).2, Or.inl ⟨?_, rfl⟩⟩
      cases ho : a.off with
      | true => rfl
      | false => exact absurd x1 (rdAX_up ho)
    · refine ⟨(key V t).1, (key V t).2, Or.inr ⟨?_, _, rfl, R.congr fun i hi => if_pos hi⟩⟩
      cases ho : a.off with
      | false => rfl
      | true => exact absurd (rdAX_off ho) (x2 0 (by omega))
  have gw : Hid (w.heap.size ≤ g) := by show _ ≤ _; omega
  clear c0 c1 c2 bb gu r1 RW R2 bu2 bW z1 z2 zW zu B1 B2 bu r0 s0 lG HA hg lG0
  go_wp2_with fail
  rw [← hW]
  refine KE.mono ?_
  rintro e V hE
  obtain ⟨f1, f2, ⟨f3, rfl⟩ | ⟨f3, c, rfl, f4⟩⟩ := FIN.out e V hE
  · have F : Hid (AskP w a ad (.returned (.tuple #[.slice (some ⟨g, 0, none⟩) n n, .int .i64 130])) V) := Or.inl ⟨f3, _, _, _, rfl, f1⟩
    clear FIN KE hE f1 f3 hW
    go_wp2
    exact bodyPost_ret (v := .tuple #[.slice (some ⟨g, 0, none⟩) n n, .int .i64 130]) (by simp [results, Tryz.results114, go_sem]) rfl F.out
  · have F : Hid (AskP w a ad (.returned (.tuple #[.slice (some ⟨g, 0, none⟩) n n, .int .i64 0])) V) := Or.inr ⟨f3, g, by rw [hn.out], by rw [← hn.out]; exact f4, gw.out, f1⟩
    clear FIN KE hE f1 f3 f4 hW
    go_wp2
    exact bodyPost_ret (v := .tuple #[.slice (some ⟨g, 0, none⟩) n n, .int .i64 0]) (by simp [results, Tryz.results114, go_sem]) rfl F.out
end Go.Proofs.YtclieefpnbdbjaaGreat.Gf

namespace Go.Proofs.YtclieefpnbdbjaaGreat.Gf
set_option linter.unusedVariables false
set_option linter.unusedSimpArgs false
open Go.RowKit Go.Shelf
theorem wi_step {S : List SaS} {K : List Bool} {r : Nat} (h : wiF S K r = false) : wiF S K (r + 1) = (hb K r && (rpS (sF S r)).sp) := by
  unfold wiF
  rw [h, Bool.false_or]
  rfl
theorem wi_mono {S : List SaS} {K : List Bool} {r : Nat} (h : wiF S K r = true) : ∀ k, wiF S K (r + k) = true
  | 0 => h
  | k + 1 => by
    show wiF S K (r + k + 1) = true
    unfold wiF
    rw [wi_mono h k, Bool.true_or]
set_option maxRecDepth 100000 in
set_option maxHeartbeats 1000000 in
theorem iswit_any {w : World} {g n : Nat} {S : List SaS} (hR : RpRow w g n (fun i => rpS (sF S i))) (hn : n ≤ 1000) {u : Value} {K : List Bool} (hK : RdB w u K) : Calls Tryz.prog 116 #[.slice (some ⟨g, 0, none⟩) n n, u] w fun e w' => e = .returned (.bool (wiF S K n)) ∧ Below w.heap.size w w' := by
  obtain ⟨ua, uc, eu⟩ := hK.form
  subst eu
  go_enter Tryz.func116, Tryz.ntmps116
  go_wp2_with fail
  go_loopw [9] (fun i wr => ∃ k : Nat, k ≤ n ∧ i = .int .i64 (k : Int) ∧ Hid (Below w.heap.size w wr) ∧ Hid (wiF S K k = false)) (fun i _ => n - (intOf i).toNat)
  case atStart => exact ⟨0, Nat.zero_le _, rfl, Below.refl _ _, rfl⟩
  case round =>
    obtain ⟨k, hk, rfl, hB, hW⟩ := hrel
    by_cases hlt : k < n
    · have hlt' : (k : Int) < (n : Int) := by omega
      obtain ⟨z0, z1, z2, z3⟩ := (hR.below hB.out).cells hlt
      have ST := wi_step (S := S) (K := K) hW.out
      generalize rpS (sF S k) = R at z0 z1 z2 z3 ST
      obtain ⟨rs, rh, re, rd⟩ := R
      simp only at z0 z1 z2 z3 ST
      have BA : Hid (Below w.heap.size w (wr.alloc (.cells #[.bool rs, .bool rh, .int .i64 re, .string ⟨rd.toArray⟩] 215))) := hB.out.step16 (belR _ _) hB.out.size
      cases rs with
      | false =>
        have SN : Hid (wiF S K (k + 1) = false) := by show _ = _; rw [ST, Bool.and_false]
        clear ST hB hW
        go_wp2
        go_roundw
        case rel => exact ⟨k + 1, by omega, by go_num, BA, SN⟩
        case measure => simp [intOf]; omega
      | true =>
        by_cases hl : k < K.length
        · have hl' : (k : Int) < (K.length : Int) := by omega
          obtain ⟨b, off, rfl, hb1, hc⟩ := (hK.below BA.out).at hl
          obtain ⟨x, hx⟩ : ∃ x, Hid (x = hb K k) := ⟨_, rfl⟩
          rw [← hx.out] at hc ST
          cases x with
          | false =>
            have SN : Hid (wiF S K (k + 1) = false) := ST
            clear ST hB hW
            go_wp2
            go_roundw
            case rel => exact ⟨k + 1, by omega, by go_num, BA, SN⟩
            case measure => simp [intOf]; omega
          | true =>
            have SN : Hid (wiF S K n = true) := by
              have e : wiF S K (k + 1) = true := ST
              obtain ⟨j, rfl⟩ := Nat.exists_eq_add_of_lt hlt
              rw [show k + j + 1 = k + 1 + j by omega]
              exact wi_mono e j
            clear ST hB hW
            go_wp2
            go_ret
            exact ⟨by rw [SN.out]; rfl, BA.out⟩
        · have hl' : ¬ (k : Int) < (K.length : Int) := by omega
          have hld : decide ((k : Int) < (K.length : Int)) = false := decide_eq_false hl'
          have SN : Hid (wiF S K (k + 1) = false) := by
            show _ = _
            rw [ST]
            simp [hb, List.getD, Nat.le_of_not_lt hl]
          clear ST hB hW
          go_wp2
          go_roundw
          case rel => exact ⟨k + 1, by omega, by go_num, BA, SN⟩
          case measure => simp [intOf]; omega
    · obtain rfl : k = n := by omega
      have hge : ¬ (k : Int) < (k : Int) := by omega
      clear hR hK
      go_wp2
      go_ret
      exact ⟨by rw [hW.out]; rfl, hB.out⟩
end Go.Proofs.YtclieefpnbdbjaaGreat.Gf

namespace Go.Proofs.YtclieefpnbdbjaaGreat.Gf
set_option linter.unusedVariables false
set_option linter.unusedSimpArgs false
open Go.RowKit
open Go.Maps (Keyed)
theorem laid17 : laidOutB Tryz.prog = true := by kernel_rfl
theorem row17 : (177 : TypeId) < Tryz.prog.types.size := of_decide_eq_true (by kernel_rfl)
theorem wide17 : (match Tryz.prog.underlying 177 with | some (.array _ _) | some (.struct _) => true | _ => false) = true := by kernel_rfl
theorem keyAt17 : Tryz.prog.keyTypeAt 2 177 = true := by kernel_rfl
theorem keyTy17 : Tryz.prog.keyType 177 = true := by kernel_rfl
theorem cells17 : Tryz.prog.cellsOf 177 = 2 := by kernel_rfl
theorem cellsi17 : Tryz.prog.cellsOf 3 = 1 := by kernel_rfl
theorem cellss17 : Tryz.prog.cellsOf 9 = 1 := by kernel_rfl
set_option maxRecDepth 100000 in
theorem klaw17 : WideMaps.KeyLaw Tryz.prog 177 := deep_law_laid laid17 (m := 2) (by omega) row17 keyAt17 wide17
theorem keyed17 : Keyed Tryz.prog 177 := Keyed.of_law klaw17
def kV (e : Int) (d : List UInt8) : Value := .agg #[.int .i64 e, .string ⟨d.toArray⟩]
theorem kV_inj {e e' : Int} {d d' : List UInt8} (h : kV e d = kV e' d') : e = e' ∧ d = d' := by
  unfold kV at h
  simp at h
  exact ⟨h.1, h.2⟩
/-- what may be a key -/
def OkK (e : Int) (d : List UInt8) : Prop := (Lit.int .i64 e).wf = true ∧ d.length ≤ maxLen
theorem pos_succ17 {n m : Nat} (h : n < m) : ∃ k, m = k + 1 := ⟨m - 1, by omega⟩
theorem size17 : ∃ k, Tryz.prog.types.size = k + 1 := pos_succ17 row17
theorem key_lits {e : Int} {d : List UInt8} (h : OkK e d) : Tryz.prog.keyLits (Tryz.prog.types.size + 1) 177 [.int .i64 e, .string ⟨d.toArray⟩] = some [.int .i64 e, .string d] := by
  obtain ⟨k, hk⟩ := size17
  have h2 : (⟨d.toArray⟩ : ByteArray).size ≤ maxLen := by show d.toArray.size ≤ _; simpa using h.2
  rw [hk]
  have e1 : ∀ m, Tryz.prog.keyLits (m + 1) 3 [.int .i64 e] = some [.int .i64 e] := fun m => by
    unfold Program.keyLits
    rw [Tryz.underlying3]
    simp [h.1]
  have e2 : ∀ m, Tryz.prog.keyLits (m + 1) 9 [.string ⟨d.toArray⟩] = some [.string d] := fun m => by
    unfold Program.keyLits
    rw [Tryz.underlying9]
    simp [h2]
  unfold Program.keyLits
  rw [Tryz.underlying177]
  simp [cells17, cellsi17, cellss17, e1, e2]
def kL (e : Int) (d : List UInt8) : Lit := .string (keyBytes [.int .i64 e, .string d])
theorem key_of {e : Int} {d : List UInt8} (h : OkK e d) : keyOf Tryz.prog 177 (kV e d) = some (kL e d) := by
  have hf : (kV e d).formed Tryz.prog 177 = true := by
    unfold kV
    simp [Value.formed, Tryz.underlying177, cells17]
  unfold keyOf
  rw [Tryz.underlying177]
  simp only [keyTy17, hf, Bool.and_self, if_true]
  have : (kV e d).cells.toList = [.int .i64 e, .string ⟨d.toArray⟩] := rfl
  rw [this, key_lits h]
  rfl
set_option maxRecDepth 100000 in
theorem key_inv {v : Value} {l : Lit} (h : keyOf Tryz.prog 177 v = some l) : ∃ e d, v = kV e d ∧ OkK e d ∧ l = kL e d := by
  obtain ⟨xs, L, rfl, h1, rfl⟩ := keyOf_top wide17 h
  obtain ⟨k, hk⟩ := size17
  rw [hk] at h1
  unfold Program.keyLits at h1
  rw [Tryz.underlying177] at h1
  simp only at h1
  split at h1
  · rename_i hc
    obtain ⟨xl⟩ := xs
    have hl : xl.length = 2 := by
      have := hc.1
      rw [cells17] at this
      simpa using this
    match xl, hl with
    | [x, y], _ =>
      simp [cellsi17, cellss17] at h1
      cases hx : Tryz.prog.keyLits (k + 1) 3 [x] with
      | none => rw [hx] at h1; cases h1
      | some lx =>
        cases hy : Tryz.prog.keyLits (k + 1) 9 [y] with
        | none => rw [hx, hy] at h1; cases h1
        | some ly =>
          rw [hx, hy] at h1
          simp at h1
          subst h1
          unfold Program.keyLits at hx hy
          rw [Tryz.underlying3] at hx
          rw [Tryz.underlying9] at hy
          have ex : ∃ q e, x = .int q e := by cases x <;> first | exact ⟨_, _, rfl⟩ | (simp at hx)
          have ey : ∃ t : List UInt8, y = .string ⟨t.toArray⟩ := by
            cases y with
            | string t =>
              cases t with
              | mk t =>
                cases t with
                | mk t => exact ⟨t, rfl⟩
            | _ => simp at hy
          obtain ⟨q, e, rfl⟩ := ex
          obtain ⟨t, rfl⟩ := ey
          simp at hx hy
          obtain ⟨⟨rfl, hw⟩, rfl⟩ := hx
          obtain ⟨hs, rfl⟩ := hy
          exact ⟨e, t, rfl, ⟨hw, by have : (⟨t.toArray⟩ : ByteArray).size = t.length := by (show t.toArray.size = _; simp)
                                    omega⟩, rfl⟩
  · cases h1
theorem kL_inj {e e' : Int} {d d' : List UInt8} (h : OkK e d) (h' : OkK e' d') (q : kL e d = kL e' d') : e = e' ∧ d = d' := by
  have a := key_of h
  rw [q] at a
  exact kV_inj (keyed17.inj a (key_of h'))
theorem isK {e : Int} {d : List UInt8} (h : OkK e d) : WideAt.IsKeyLit (kL e d) := keyed17.key (key_of h)
/-- as a map reads: what is there, and how often -/
structure CntD (D : DataW Value) (c : Int → List UInt8 → Nat) : Prop where
  map : Maps.IsMap D
  keys : ∀ kl, Maps.has D kl = true → ∃ e d, OkK e d ∧ kl = kL e d
  has : ∀ e d, OkK e d → (Maps.has D (kL e d) = true ↔ 0 < c e d)
  at_ : ∀ e d, OkK e d → D.atKey (kL e d) (.lit (.int .i64 0)) = .lit (.int .i64 ((c e d : Nat) : Int))
  in_ : ∀ e d, 0 < c e d → OkK e d
theorem CntD.empty : CntD (.map []) (fun _ _ => 0) := ⟨Maps.isMap_empty, fun kl h => by simp [Maps.has] at h, fun e d _ => by simp [Maps.has], fun e d _ => rfl, fun e d h => by omega⟩
theorem CntD.put {D : DataW Value} {c : Int → List UInt8 → Nat} (h : CntD D c) {e : Int} {d : List UInt8} (hk : OkK e d) : CntD (D.put (kL e d) (.lit (.int .i64 ((c e d : Nat) + 1 : Nat)))) (fun x y => c x y + if x = e ∧ y = d then 1 else 0) := by
  refine ⟨h.map.put _ _, fun kl hh => ?_, fun x y hx => ?_, fun x y hx => ?_, fun x y hc => ?_⟩
  · by_cases q : kl = kL e d
    · exact ⟨e, d, hk, q⟩
    · rw [Maps.has_put_other q] at hh
      exact h.keys kl hh
  · by_cases q : x = e ∧ y = d
    · rw [if_pos q, q.1, q.2, Maps.has_put_same h.map (isK hk)]
      exact ⟨fun _ => by omega, fun _ => rfl⟩
    · rw [if_neg q, Maps.has_put_other fun k => q (kL_inj hx hk k)]
      exact h.has x y hx
  · by_cases q : x = e ∧ y = d
    · rw [if_pos q, q.1, q.2, Maps.atKey_put_same h.map (isK hk)]
    · rw [if_neg q, Maps.atKey_put_other fun k => q (kL_inj hx hk k)]
      exact h.at_ x y hx
  · by_cases q : x = e ∧ y = d
    · rw [q.1, q.2]; exact hk
    · rw [if_neg q] at hc
      exact h.in_ x y hc
def CntM (w : World) (b S : Nat) (c : Int → List UInt8 → Nat) : Prop := ∃ D, w.ownsMap Tryz.prog 177 (plainElem Tryz.prog 3) b S D ∧ CntD D c
theorem zero17 (w : World) : (zeroValue 3).run Tryz.prog w = .ok (.int .i64 0) w := by kernel_rfl
theorem CntM.made (w : World) : CntM (w.alloc (.map #[] 0)) w.heap.size 0 (fun _ _ => 0) := ⟨_, World.ownsMap_made _ _ _ _, CntD.empty⟩
theorem CntM.lt {w : World} {b S : Nat} {c : Int → List UInt8 → Nat} (h : CntM w b S c) : b < w.heap.size := by
  obtain ⟨D, h, _⟩ := h
  exact h.lt
theorem CntM.of_block {w w' : World} {b S : Nat} {c : Int → List UInt8 → Nat} (h : CntM w b S c) (he : w'.heap[b]? = w.heap[b]?) : CntM w' b S c := by
  obtain ⟨D, ⟨es, clock, hb, r⟩, r2⟩ := h
  exact ⟨D, ⟨es, clock, he.trans hb, r⟩, r2⟩
theorem setBlock_inj {w : World} {b : Nat} {x y : Obj} {es : Array MapEntry} {clock : Nat} (hb : w.heap[b]? = some (.map es clock)) (h : ChangeMaps.setBlock w b x = ChangeMaps.setBlock w b y) : x = y := by
  have h1 := ChangeMaps.heap_setBlock_same hb x
  rw [h, ChangeMaps.heap_setBlock_same hb y] at h1
  exact (Option.some.inj h1).symm
/-- a look-up finds the one entry at the key -/
theorem look17 {W : World} {b t k e : Nat} {P : Program} (K : WideMaps.KeyLaw P k) (ht : P.underlying t = some (.map k e)) {es : Array MapEntry} {clock : Nat} (hb : W.heap[b]? = some (.map es clock)) (hk : ∀ x ∈ es.toList, ∃ l, keyOf P k x.key = some l) {key u : Value} {kl : Lit} (hkey : keyOf P k key = some kl)
    (hin : ∃ x ∈ es.toList, x.key = key) (hu : ∀ x ∈ es.toList, x.key = key → x.val = u) : (Instr.lookup t (.map (some b)) key false).run P W = .ok u W := by
  rcases K.find W hkey es.toList hk with ⟨h1, h2⟩ | ⟨j, e0, h1, h2, h3⟩
  · obtain ⟨x, hx, hxk⟩ := hin
    exact absurd hxk (h2 x hx)
  · have := hu e0 (List.mem_of_getElem? h2) h3
    simp [Instr.lookup, run_underlying ht, MapKept.run_getObj_map hb, K.check W _ hkey, h1, Result.andThen, this]
section
variable {w : World} {b t k e : Nat} {P : Program} {H : Type} {R : Value → Option (DataW H × List MemPlace)} {es es1 : Array MapEntry} {clock clock1 st : Nat} {key v0 z : Value} {kl : Lit}
theorem one_key (F : WideElems.Fit P k R es clock) {x y : MapEntry} (hx : x ∈ es.toList) (hy : y ∈ es.toList) (h : x.key = y.key) : x = y := entry_eq_of_key (List.pairwise_map.1 F.stamped.2.2) hx hy h
/-- what the entry tells is what is looked up, ahead of it and behind it -/
theorem entry_look (K : WideMaps.KeyLaw P k) (ht : P.underlying t = some (.map k e)) (hz : ∀ u : World, (zeroValue e).run P u = .ok z u) (hb : w.heap[b]? = some (.map es clock)) (F : WideElems.Fit P k R es clock) (hkey : keyOf P k key = some kl)
    (hme : (Instr.mapEntry t (.map (some b)) key).run P w = .ok (.tuple #[v0, goInt st]) (ChangeMaps.setBlock w b (.map es1 clock1))) :
    (Instr.lookup t (.map (some b)) key false).run P w = .ok v0 w ∧ (Instr.lookup t (.map (some b)) key false).run P (ChangeMaps.setBlock w b (.map es1 clock1)) = .ok v0 (ChangeMaps.setBlock w b (.map es1 clock1)) := by
  have hb1 : (ChangeMaps.setBlock w b (.map es1 clock1)).heap[b]? = some (.map es1 clock1) := ChangeMaps.heap_setBlock_same hb _
  rcases K.find w hkey es.toList F.keys with ⟨h1, h2⟩ | ⟨j, e0, h1, h2, h3⟩
  · have r : (Instr.mapEntry t (.map (some b)) key).run P w = .ok (.tuple #[z, goInt clock]) (ChangeMaps.setBlock w b (.map (es.push ⟨key, z, clock⟩) (clock + 1))) := by
      simp [Instr.mapEntry, run_underlying ht, MapKept.run_getObj_map hb, K.check w false hkey, h1, hz, MapKept.run_setObj_map _ hb, Result.andThen, ChangeMaps.setBlock]
    rw [hme] at r
    injection r with r1 r2
    have r3 := setBlock_inj hb r2
    injection r3 with r4 _
    simp at r1
    obtain ⟨rfl, _⟩ := r1
    subst r4
    refine ⟨by simp [Instr.lookup, run_underlying ht, MapKept.run_getObj_map hb, K.check w _ hkey, h1, hz, Result.andThen], look17 K ht hb1 (fun x hx => ?_) hkey ⟨⟨key, v0, clock⟩, by simp, rfl⟩ (fun x hx hxk => ?_)⟩
    · rw [Array.toList_push, List.mem_append] at hx
      rcases hx with hx | hx
      · exact F.keys x hx
      · rw [List.mem_singleton.1 hx]; exact ⟨_, hkey⟩
    · rw [Array.toList_push, List.mem_append] at hx
      rcases hx with hx | hx
      · exact absurd hxk (h2 x hx)
      · rw [List.mem_singleton.1 hx]
  · have hj : es[j]? = some e0 := by simpa using h2
    have hm := List.mem_of_getElem? h2
    have hsame : es.modify j (fun x => { x with key := key }) = es := by
      apply Array.ext'
      rw [Array.toList_modify, ChangeMaps.modify_eq_set _ _ _ _ h2]
      have : ({ e0 with key := key } : MapEntry) = e0 := by rw [← h3]
      rw [this]
      exact WideElems.set_self _ _ _ h2
    have r : (Instr.mapEntry t (.map (some b)) key).run P w = .ok (.tuple #[e0.val, goInt e0.born]) (ChangeMaps.setBlock w b (.map es clock)) := by
      simp [Instr.mapEntry, run_underlying ht, MapKept.run_getObj_map hb, K.check w false hkey, h1, hj, h3, K.stays w hkey, hsame, MapKept.run_setObj_map _ hb, Result.andThen, ChangeMaps.setBlock]
    rw [hme] at r
    injection r with r1 r2
    have r3 := setBlock_inj hb r2
    injection r3 with r4 _
    simp at r1
    obtain ⟨rfl, _⟩ := r1
    subst r4
    exact ⟨look17 K ht hb F.keys hkey ⟨e0, hm, h3⟩ (fun y hy hyk => by rw [one_key F hy hm (hyk.trans h3.symm)]), look17 K ht hb1 F.keys hkey ⟨e0, hm, h3⟩ (fun y hy hyk => by rw [one_key F hy hm (hyk.trans h3.symm)])⟩
/-- 'm[k]++', its four operations: whether the look-up or the entry comes first -/
theorem map_up {D : DataW H} {n : Nat} {val : Value} {d : DataW H} {ps : List MemPlace} (K : WideMaps.KeyLaw P k) (ht : P.underlying t = some (.map k e)) (hz : ∀ u : World, (zeroValue e).run P u = .ok z u) (ho : w.ownsMap P k R b n D) (hn : n < maxLen) (hkey : keyOf P k key = some kl) (hv : R val = some (d, ps)) :
    ∃ v0 st w1 w2, (Instr.lookup t (.map (some b)) key false).run P w = .ok v0 w ∧ (Instr.mapEntry t (.map (some b)) key).run P w = .ok (.tuple #[v0, goInt st]) w1 ∧ (Instr.lookup t (.map (some b)) key false).run P w1 = .ok v0 w1 ∧
      (Instr.entryStore t (.map (some b)) (goInt st) val).run P w1 = .ok () w2 ∧ w2.ownsMap P k R b (n + 1) (D.put kl d) ∧ w.grownBy w2 (some b) := by
  obtain ⟨w2, hup, ho2, hg2⟩ := ho.update (Maps.Keyed.of_law K) ht hn hkey hv
  obtain ⟨es, clock, hb, F, hs, hDe⟩ := ho
  obtain ⟨v0, st, es1, clock1, hme, hv0, hst⟩ := WideElems.entry_then_store K ht hz hb F hkey
  have hb1 : (ChangeMaps.setBlock w b (.map es1 clock1)).heap[b]? = some (.map es1 clock1) := ChangeMaps.heap_setBlock_same hb _
  obtain ⟨es', clock', hes, hmu⟩ := hst _ val hb1
  have e2 : ChangeMaps.setBlock w b (.map es' clock') = w2 := by
    rw [hup] at hmu
    injection hmu with _ h2
    exact h2.symm
  have e3 : ChangeMaps.setBlock (ChangeMaps.setBlock w b (.map es1 clock1)) b (.map es' clock') = ChangeMaps.setBlock w b (.map es' clock') := by
    simp [ChangeMaps.setBlock]
  rw [e3, e2] at hes
  obtain ⟨l1, l2⟩ := entry_look K ht hz hb F hkey hme
  exact ⟨v0, st, _, w2, l1, hme, l2, hes, ho2, hg2⟩
end
theorem CntM.up {w : World} {b S : Nat} {c : Int → List UInt8 → Nat} (h : CntM w b S c) (hS : S < 1000) {e : Int} {d : List UInt8} (hk : OkK e d) (hc : c e d < 1000) :
    ∃ (st : Int) (w1 w2 : World), (Instr.lookup 217 (.map (some b)) (kV e d) false).run Tryz.prog w = .ok (.int .i64 ((c e d : Nat) : Int)) w ∧
      (Instr.mapEntry 217 (.map (some b)) (kV e d)).run Tryz.prog w = .ok (.tuple #[.int .i64 ((c e d : Nat) : Int), .int .i64 st]) w1 ∧
      (Instr.lookup 217 (.map (some b)) (kV e d) false).run Tryz.prog w1 = .ok (.int .i64 ((c e d : Nat) : Int)) w1 ∧
      (Instr.entryStore 217 (.map (some b)) (.int .i64 st) (.int .i64 ((c e d : Int) + 1))).run Tryz.prog w1 = .ok () w2 ∧
      CntM w2 b (S + 1) (fun x y => c x y + if x = e ∧ y = d then 1 else 0) ∧ w.grownBy w2 (some b) := by
  obtain ⟨D, ho, hD⟩ := h
  have hkey := key_of hk
  obtain ⟨c0, hlook, hat, hwc⟩ := ho.lookup_int keyed17 Tryz.underlying217 Tryz.underlying3 (zero17 w) hkey
  rw [hD.at_ e d hk] at hat
  simp at hat
  subst hat
  obtain ⟨v0, st, w1, w2, l1, l2, l3, l4, l5, l6⟩ := map_up (val := .int .i64 ((c e d : Int) + 1)) klaw17 Tryz.underlying217 (fun u => zero17 u) ho (by unfold maxLen; omega) hkey (plainElem_int Tryz.underlying3 (WalkArith.wf_i64 (by omega)))
  have ev : v0 = .int .i64 ((c e d : Nat) : Int) :=
     (Result.ok.inj (hlook.symm.trans l1)).1.symm
  subst ev
  exact ⟨(st : Int), w1, w2, hlook, l2, l3, l4, ⟨_, l5, hD.put hk⟩, l6⟩
end Go.Proofs.YtclieefpnbdbjaaGreat.Gf
