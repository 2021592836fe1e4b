/- TEXTS JOINED: BkOne, BkCC, BkEn. -/
import Derived.Test.YtddnfhfangfgeaaGreatChecked
import GoSem.Claim
import GoSem.ClaimJoined
import GoSem.ClaimMapViews
import Derived.JoinedTies
import Derived.KernelRfl
import Derived.WalkKit
import Derived.Deep.QuietTactic
import Derived.BigQuiet
import Derived.WalkLawsBesides
import Derived.WalkSpells
import Derived.OpenShut
import Derived.Deep.AppendLies
import Derived.Laws.CopyOwn
import Derived.Laws.AppendOwnNone
import Derived.Deep.RegionHeld3
import Derived.WalkMore
import Derived.Test.YtddnfhfangfgeaaGreatRows
import Derived.Test.YtddnfhfangfgeaaGreatTome2
import Derived.Test.YtddnfhfangfgeaaGreatTome10
import Derived.Test.YtddnfhfangfgeaaGreatTome11
import Derived.Shelf.Abstract
import Derived.Laws.EntriesVeiled
import Derived.Deep.RegionWith
import Derived.Test.YtddnfhfangfgeaaGreatTome3
import Derived.Test.YtddnfhfangfgeaaGreatTome1
import Derived.Test.YtddnfhfangfgeaaGreatTome6
import Derived.Test.YtddnfhfangfgeaaGreatTome9
namespace Go.Proofs.YtddnfhfangfgeaaGreat.Gf
set_option linter.unusedVariables false
set_option linter.unusedSimpArgs false
open Go.RowKit
/-- the length that the first shard has; of none -1 -/
def fl (L : List (List UInt8)) : Int := if L.length = 0 then -1 else (((ro L 0).length : Nat) : Int)
theorem fl_pos {L : List (List UInt8)} (h : 0 < L.length) : fl L = (((ro L 0).length : Nat) : Int) := if_neg (by omega)
theorem even_nil : Even [] := fun i hi => by simp at hi
theorem Even.push {L : List (List UInt8)} {p : List UInt8} (h : Even L) (hp : 0 < L.length → p.length = (ro L 0).length) : Even (L ++ [p]) := by
  intro i hi
  rw [List.length_append] at hi
  simp at hi
  by_cases h0 : L.length = 0
  · have : L = [] := List.length_eq_zero_iff.1 h0
    subst this
    rw [show i = 0 by simp at hi; omega]
  · rw [ro_append_left (i := 0) (by omega)]
    by_cases e : i < L.length
    · rw [ro_append_left e]; exact h i e
    · rw [ro_append_right (by omega), show i - L.length = 0 by omega]; exact hp (by omega)
theorem fl_push {L : List (List UInt8)} {p : List UInt8} : fl (L ++ [p]) = if L.length = 0 then ((p.length : Nat) : Int) else fl L := by
  rw [fl_pos (by simp)]
  by_cases h0 : L.length = 0
  · rw [if_pos h0]
    have : L = [] := List.length_eq_zero_iff.1 h0
    subst this; rfl
  · rw [if_neg h0, ro_append_left (by omega), fl_pos (by omega)]
theorem Even.left {L M : List (List UInt8)} (h : Even (L ++ M)) : Even L := fun i hi => by
  have := h i (by rw [List.length_append]; omega)
  rwa [ro_append_left hi, ro_append_left (by omega)] at this
theorem take_push {M : List (List UInt8)} {k : Nat} (h : k < M.length) : M.take (k + 1) = M.take k ++ [ro M k] := by
  rw [List.take_add_one, ro_some h]; rfl
/-- where a shard has another length -/
theorem not_even {L M : List (List UInt8)} {k : Nat} (hk : k < M.length) (h0 : 0 < (L ++ M.take k).length) (hne : (ro M k).length ≠ (ro (L ++ M.take k) 0).length) : ¬ Even (L ++ M) := by
  intro h
  have h1 := h (L.length + k) (by rw [List.length_append]; omega)
  rw [ro_append_right (by omega), show L.length + k - L.length = k by omega] at h1
  apply hne
  rw [h1]
  have : L ++ M = (L ++ M.take k) ++ M.drop k := by rw [List.append_assoc, List.take_append_drop]
  rw [this, ro_append_left h0]
/-- the lists that were asked ahead of the list c -/
def ahead (A B : List (List UInt8)) (c : Nat) : List (List UInt8) := if c = 0 then [] else if c = 1 then A else A ++ B
def nth (A B : List (List UInt8)) (c : Nat) : List (List UInt8) := if c = 0 then A else B
theorem ahead_step {A B : List (List UInt8)} {c : Nat} (h : c < 2) : ahead A B c ++ nth A B c = ahead A B (c + 1) := by
  rcases c with _ | _ | c
  · rfl
  · rfl
  · omega
theorem ahead_all {A B : List (List UInt8)} {c : Nat} (h : c < 2) (hE : Even (A ++ B)) : Even (ahead A B c ++ nth A B c) := by
  rw [ahead_step h]
  rcases c with _ | _ | c
  · exact hE.left
  · exact hE
  · omega
set_option maxRecDepth 100000 in
set_option maxHeartbeats 2000000 in
theorem one_any {v0 v1 : Value} {A B : List (List UInt8)} {w : World} {g : Nat} (hA : Rs w v0 A) (hB : Rs w v1 B) (k0 : w.cell? ⟨g, 0, none⟩ = some v0) (k1 : w.cell? ⟨g, 1, none⟩ = some v1) :
    Calls Tryz.prog 160 #[.slice (some ⟨g, 0, none⟩) 2 2] w fun e w' => e = .returned (.bool (decide (Even (A ++ B)))) ∧ w' = w := by
  have hN : Hid (∀ c, c < 2 → ∃ a n, n = (nth A B c).length ∧ ∃ cap, w.cell? ⟨g, c, none⟩ = some (.slice a n cap) ∧ Rs w (.slice a n cap) (nth A B c)) := by
    intro c hc
    rcases c with _ | _ | c
    · obtain ⟨a, cap, rfl⟩ := hA.form; exact ⟨a, _, rfl, cap, k0, hA⟩
    · obtain ⟨a, cap, rfl⟩ := hB.form; exact ⟨a, _, rfl, cap, k1, hB⟩
    · omega
  clear hA hB k0 k1
  go_enter Tryz.func160, Tryz.ntmps160
  go_wp2
  go_step3
  go_wp2
  go_step3
  go_wp2
  go_loop [3, 4, 11] (fun x s i => ∃ c : Nat, c ≤ 2 ∧ i = .int .i64 c ∧ s = .bool true ∧ x = .int .i64 (fl (ahead A B c)) ∧ Hid (Even (ahead A B c))) (fun _ _ i => 2 - (intOf i).toNat)
  case atStart => exact ⟨0, by omega, rfl, rfl, rfl, even_nil⟩
  case round =>
    obtain ⟨c, hc, rfl, rfl, rfl, hE⟩ := hrel
    by_cases hlt : c < 2
    · obtain ⟨a, n, hn, cap, kc, hM⟩ := hN.out c hlt
      obtain ⟨M, hMM⟩ : ∃ M, Hid (M = nth A B c) := ⟨_, rfl⟩
      obtain ⟨J, hJ⟩ : ∃ J, Hid (J = ahead A B c) := ⟨_, rfl⟩
      rw [← hMM.out] at hM hn
      rw [← hJ.out] at hE ⊢
      subst hn
      have hml := hM.len
      unfold maxLen at hml
      have hlt' : (c : Int) < 2 := by omega
      go_wp2
      go_loop [3, 4, 17] (fun x s i => ∃ k : Nat, k ≤ M.length ∧ i = .int .i64 k ∧ s = .bool true ∧ x = .int .i64 (fl (J ++ M.take k)) ∧ Hid (Even (J ++ M.take k))) (fun _ _ i => M.length - (intOf i).toNat)
      case atStart => exact ⟨0, by omega, rfl, rfl, by simp, by simpa using hE⟩
      case round =>
        obtain ⟨k, hk, rfl, rfl, rfl, hE2⟩ := hrel
        clear hE
        by_cases hkm : k < M.length
        · obtain ⟨b, off, xa, xc, rfl, hb, c1, r1⟩ := hM.at hkm
          have hkm' : (k : Int) < (M.length : Int) := by omega
          by_cases h0 : (J ++ M.take k).length = 0
          · have e1 : fl (J ++ M.take k) = -1 := if_pos h0
            have e2 : Hid (fl (J ++ M.take (k + 1)) = (((ro M k).length : Nat) : Int)) := by
              show _ = _
              rw [take_push hkm, ← List.append_assoc, fl_push, if_pos h0]
            have e3 : Hid (Even (J ++ M.take (k + 1))) := by
              show Even _
              rw [take_push hkm, ← List.append_assoc]
              exact hE2.out.push fun h => by omega
            rw [e1]
            clear e1 h0 hE2 hM r1
            go_wp2
            go_round
            case rel => exact ⟨k + 1, by omega, by go_num, rfl, by rw [e2.out], e3⟩
            case measure => simp [intOf]; omega
          · have e1 : fl (J ++ M.take k) = (((ro (J ++ M.take k) 0).length : Nat) : Int) := fl_pos (by omega)
            have hneg : ¬ (((ro (J ++ M.take k) 0).length : Nat) : Int) < 0 := by omega
            by_cases e : (ro M k).length = (ro (J ++ M.take k) 0).length
            · have e2 : Hid (fl (J ++ M.take (k + 1)) = (((ro (J ++ M.take k) 0).length : Nat) : Int)) := by
                show _ = _
                rw [take_push hkm, ← List.append_assoc, fl_push, if_neg h0, e1]
              have e3 : Hid (Even (J ++ M.take (k + 1))) := by
                show Even _
                rw [take_push hkm, ← List.append_assoc]
                exact hE2.out.push fun h => e
              rw [e1]
              generalize (ro (J ++ M.take k) 0).length = f0 at *
              have hb : (((ro M k).length : Int) != (f0 : Int)) = false := by simp [e]
              clear e1 h0 hE2 hM r1 e
              go_wp2
              go_round
              case rel => exact ⟨k + 1, by omega, by go_num, rfl, by rw [e2.out], e3⟩
              case measure => simp [intOf]; omega
            · have E : Hid (decide (Even (A ++ B)) = false) := by
                refine decide_eq_false fun h => ?_
                have := ahead_all hlt h
                rw [← hJ.out, ← hMM.out] at this
                exact not_even hkm (by omega) e this
              rw [e1]
              generalize (ro (J ++ M.take k) 0).length = f0 at *
              have hb : (((ro M k).length : Int) != (f0 : Int)) = true := by simp; omega
              clear e1 h0 hE2 hM r1 e
              go_wp2
              go_ret
              exact ⟨by rw [E.out]; rfl, rfl⟩
        · have hge : ¬ (k : Int) < (M.length : Int) := by omega
          have hkk : k = M.length := by omega
          have e2 : Hid (J ++ M.take k = ahead A B (c + 1)) := by
            show _ = _
            rw [hkk, List.take_length, hJ.out, hMM.out]; exact ahead_step hlt
          rw [e2.out] at hE2 ⊢
          clear hM hkk
          go_wp2
          go_round
          case rel => exact ⟨c + 1, by omega, by go_num, rfl, rfl, hE2⟩
          case measure => simp [intOf]; omega
    · have hge : ¬ (c : Int) < 2 := by omega
      have E : Hid (decide (Even (A ++ B)) = true) := by
        rw [show c = 2 by omega] at hE
        exact decide_eq_true hE.out
      clear hN hE
      go_wp2
      go_ret
      exact ⟨by rw [E.out]; rfl, rfl⟩
end Go.Proofs.YtddnfhfangfgeaaGreat.Gf

namespace Go.Proofs.YtddnfhfangfgeaaGreat.Gf
set_option linter.unusedVariables false
set_option linter.unusedSimpArgs false
open Go.RowKit
/-- the shards are as many as there should be, and of one length -/
def OkS (A B : List (List UInt8)) (many : Int) : Prop := (A.length : Int) = many ∧ Even (A ++ B)
set_option maxRecDepth 100000 in
set_option maxHeartbeats 1000000 in
theorem chkd_ok {b : Nat} {k m : Nat} {many : Int} {v vo : Value} {A B : List (List UInt8)} {w : World} (hF : FieldAt w b) (h1 : 1 ≤ k) (h2 : k + m ≤ 256) (hA : Rs w v A) (hB : Rs w vo B) (h : OkS A B many) {x y : Int} (hx : x = (k : Int)) (hy : y = (m : Int)) :
    Calls Tryz.prog 129 #[.pointer (some ⟨b, 0, none⟩), .int .i64 x, .int .i64 y, .int .i64 many, v, vo] w (MakesM w m k (parF k)) := by
  subst hx hy
  obtain ⟨a1, c1, rfl⟩ := hA.form
  obtain ⟨a2, c2, rfl⟩ := hB.form
  go_enter Tryz.func129, Tryz.ntmps129
  have A0 : Below w.heap.size w (w.alloc (.cells #[.int .i64 0, .int .i64 0, .slice none 0 0] 148)) := (Below.refl _ _).alloc (Nat.le_refl _) _
  go_wp2_with fail
  refine (cpar_at k m (hF.below A0) h1 h2 rfl rfl).mono ?_
  rintro e w2 ⟨g, M, rfl, hg, hR, b2⟩
  simp at hg
  have X3 : Box w2 w.heap.size 0 0 (.slice none 0 0) := Below.box b2 (by simp <;> omega) (Box.new w 0 0 (.slice none 0 0) 148)
  have F3 : Free w2 w.heap.size := Below.free b2 (by simp <;> omega) (Free.new w #[.int .i64 0, .int .i64 0, .slice none 0 0] 148)
  have hs2 : w.heap.size < w2.heap.size := by have := b2.size; simp at this; omega
  have B2 : Below w.heap.size w w2 := Below.next A0 b2
  have hA2 := hA.below B2
  have hB2 := hB.below B2
  clear hF A0 b2 hA hB
  have x30 := X3.c0
  have x31 := X3.c1
  have x32 := X3.c2
  have f30 := F3.f0
  have f31 := F3.f1
  have f32 := F3.f2
  have hE : Hid (decide (Even (A ++ B)) = true) := decide_eq_true h.2
  have hb : ((A.length : Int) != many) = false := by simp [h.1]
  clear h
  go_wp2_with fail
  refine (one_any (A := A) (B := B) (hA2.below (by repeat (first | exact Below.refl _ _ | apply below_lit))) (hB2.below (by repeat (first | exact Below.refl _ _ | apply below_lit))) (by simp) (by simp)).mono ?_
  rintro e w3 ⟨rfl, rfl⟩
  rw [hE.out]
  clear hA2 hB2
  go_wp2
  have O1 : Only w.heap.size w2 (((w2.setCell ⟨w.heap.size, 0, none⟩ (.int .i64 (m : Int))).setCell ⟨w.heap.size, 1, none⟩ (.int .i64 (k : Int))).setCell ⟨w.heap.size, 2, none⟩ (.slice (some ⟨g, 0, none⟩) M M)) :=
    (((Only.refl _ _).setCell 0 _).setCell 1 _).setCell 2 _
  have R2 := hR.only (apart_block (g := w.heap.size) (by omega)) O1
  have B3 := B2.trans (O1.below (Nat.le_refl _))
  have s3 := O1.size
  refine bodyPost_ret (v := .tuple #[.agg #[.int .i64 (m : Int), .int .i64 (k : Int), .slice (some ⟨g, 0, none⟩) M M], .int .i64 0]) (by simp [results, Tryz.results129, go_sem, x30, x31, x32, f30, f31, f32, hs2]) rfl ⟨_, rfl, R2.below (by repeat (first | exact Below.refl _ _ | apply below_lit)), by repeat (first | exact B3 | apply below_lit)⟩
end Go.Proofs.YtddnfhfangfgeaaGreat.Gf

namespace Go.Proofs.YtddnfhfangfgeaaGreat.Gf
set_option linter.unusedVariables false
set_option linter.unusedSimpArgs false
open Go.RowKit
set_option maxRecDepth 100000 in
set_option maxHeartbeats 1000000 in
theorem enc_far {b : Nat} {k m : Nat} {v : Value} {L : List (List UInt8)} {w : World} (hF : FieldAt w b) (h1 : 1 ≤ k) (h2 : k + m ≤ 256) (h : Rs w v L) (hL : L.length = k) (hE : Even L) (hS : Small L) {x y : Int} (hx : x = (k : Int)) (hy : y = (m : Int)) :
    Calls Tryz.prog 89 #[.pointer (some ⟨b, 0, none⟩), .int .i64 x, .int .i64 y, v] w (MakesFar w 0 (encL m k (parF k) L)) := by
  subst hx hy
  go_enter Tryz.func89, Tryz.ntmps89
  go_wp2_with fail
  refine (chkd_ok hF h1 h2 h rs_none (B := []) ⟨by rw [hL], by rw [List.append_nil]; exact hE⟩ rfl rfl).mono ?_
  rintro e w2 ⟨vs, rfl, hR, b2⟩
  have A2 : Below w2.heap.size w2 (w2.alloc (.cells #[.int .i64 (m : Int), .int .i64 (k : Int), vs] 148)) := (Below.refl _ _).alloc (Nat.le_refl _) _
  have B2 : Below w.heap.size w (w2.alloc (.cells #[.int .i64 (m : Int), .int .i64 (k : Int), vs] 148)) := below_lit b2 _
  have HD := encd_far m k (parF k) (hF.below B2) (hR.below A2) h1 h2 (h.below B2) hL hE hS rfl rfl
  obtain ⟨va, vc, rfl⟩ := hR.form
  obtain ⟨da, dc, rfl⟩ := h.form
  clear hF h hR hE hS b2 A2 hL
  go_wp2_with fail
  refine HD.mono ?_
  rintro e w3 ⟨v', rfl, hR3, b3⟩
  replace hR3 := hR3.rebase B2.size
  have HB : Hid _ := Below.next B2 b3
  clear HD b3 B2
  obtain ⟨xa, xc, rfl⟩ := hR3.form
  go_wp2
  exact bodyPost_ret (v := .tuple #[.slice xa (encL m k (parF k) L).length xc, .int .i64 0]) (by simp [results, Tryz.results89, go_sem]) rfl ⟨_, rfl, hR3, HB.out⟩
end Go.Proofs.YtddnfhfangfgeaaGreat.Gf
