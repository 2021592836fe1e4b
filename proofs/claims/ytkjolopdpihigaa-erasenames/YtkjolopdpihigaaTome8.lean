/- TEXTS JOINED: BkOne, BkEq, BkCC, BkEnc, ErCE, ErCF, ErAwake. -/
import Derived.Test.YtkjolopdpihigaaTome3
import Derived.WalkMore
import Derived.Laws.BytesArg
import Derived.Test.YtkjolopdpihigaaTome7
import Derived.Test.YtkjolopdpihigaaTome4
import Derived.Deep.RegionHeld3
import Derived.Test.YtkjolopdpihigaaTome5
import Derived.Test.YtkjolopdpihigaaTome1
/-
  THE PROGRAM's 'oneLength' BY CONTRACT.
-/

namespace Go.Proofs.Ytkjolopdpihigaa.Gf
set_option linter.unusedVariables false
set_option linter.unusedSimpArgs false
open Go.RowKit

/-- the length that the first shard has; of none -1 -/
def fl (L : List (List UInt8)) : Int := if L.length = 0 then -1 else (((ro L 0).length : Nat) : Int)
theorem fl_nil : fl [] = -1 := rfl
theorem fl_pos {L : List (List UInt8)} (h : 0 < L.length) : fl L = (((ro L 0).length : Nat) : Int) := if_neg (by omega)
theorem even_nil : Even [] := fun i hi => by simp at hi
theorem Even.push {L : List (List UInt8)} {p : List UInt8} (h : Even L) (hp : 0 < L.length → p.length = (ro L 0).length) : Even (L ++ [p]) := by
  intro i hi
  rw [List.length_append] at hi
  simp at hi
  by_cases h0 : L.length = 0
  · have : L = [] := List.length_eq_zero_iff.1 h0
    subst this
    rw [show i = 0 by simp at hi; omega]
  · rw [ro_append_left (i := 0) (by omega)]
    by_cases e : i < L.length
    · rw [ro_append_left e]; exact h i e
    · rw [ro_append_right (by omega), show i - L.length = 0 by omega]; exact hp (by omega)
theorem fl_push {L : List (List UInt8)} {p : List UInt8} : fl (L ++ [p]) = if L.length = 0 then ((p.length : Nat) : Int) else fl L := by
  rw [fl_pos (by simp)]
  by_cases h0 : L.length = 0
  · rw [if_pos h0]
    have : L = [] := List.length_eq_zero_iff.1 h0
    subst this; rfl
  · rw [if_neg h0, ro_append_left (by omega), fl_pos (by omega)]
theorem Even.left {L M : List (List UInt8)} (h : Even (L ++ M)) : Even L := fun i hi => by
  have := h i (by rw [List.length_append]; omega)
  rwa [ro_append_left hi, ro_append_left (by omega)] at this
theorem take_push {M : List (List UInt8)} {k : Nat} (h : k < M.length) : M.take (k + 1) = M.take k ++ [ro M k] := by
  rw [List.take_add_one, ro_some h]; rfl
theorem Even.take {L M : List (List UInt8)} {k : Nat} (h : Even (L ++ M)) : Even (L ++ M.take k) := by
  have : L ++ M = (L ++ M.take k) ++ M.drop k := by rw [List.append_assoc, List.take_append_drop]
  rw [this] at h
  exact h.left
/-- where a shard has another length -/
theorem not_even {L M : List (List UInt8)} {k : Nat} (hk : k < M.length) (h0 : 0 < (L ++ M.take k).length) (hne : (ro M k).length ≠ (ro (L ++ M.take k) 0).length) : ¬ Even (L ++ M) := by
  intro h
  have h1 := h (L.length + k) (by rw [List.length_append]; omega)
  rw [ro_append_right (by omega), show L.length + k - L.length = k by omega] at h1
  apply hne
  rw [h1]
  have : L ++ M = (L ++ M.take k) ++ M.drop k := by rw [List.append_assoc, List.take_append_drop]
  rw [this, ro_append_left h0]

/-- the lists that were asked ahead of the list c -/
def ahead (A B : List (List UInt8)) (c : Nat) : List (List UInt8) := if c = 0 then [] else if c = 1 then A else A ++ B
def nth (A B : List (List UInt8)) (c : Nat) : List (List UInt8) := if c = 0 then A else B
theorem ahead_step {A B : List (List UInt8)} {c : Nat} (h : c < 2) : ahead A B c ++ nth A B c = ahead A B (c + 1) := by
  rcases c with _ | _ | c
  · rfl
  · rfl
  · omega
theorem ahead_all {A B : List (List UInt8)} {c : Nat} (h : c < 2) (hE : Even (A ++ B)) : Even (ahead A B c ++ nth A B c) := by
  rw [ahead_step h]
  rcases c with _ | _ | c
  · exact hE.left
  · exact hE
  · omega

set_option maxRecDepth 100000 in
set_option maxHeartbeats 2000000 in
theorem one_any {v0 v1 : Value} {A B : List (List UInt8)} {w : World} {g : Nat} (hA : Rs w v0 A) (hB : Rs w v1 B) (k0 : w.cell? ⟨g, 0, none⟩ = some v0) (k1 : w.cell? ⟨g, 1, none⟩ = some v1) :
    Calls Try.prog 57 #[.slice (some ⟨g, 0, none⟩) 2 2] w fun e w' => e = .returned (.bool (decide (Even (A ++ B)))) ∧ w' = w := by
  have hN : Hid (∀ c, c < 2 → ∃ a n, n = (nth A B c).length ∧ ∃ cap, w.cell? ⟨g, c, none⟩ = some (.slice a n cap) ∧ Rs w (.slice a n cap) (nth A B c)) := by
    intro c hc
    rcases c with _ | _ | c
    · obtain ⟨a, cap, rfl⟩ := hA.form; exact ⟨a, _, rfl, cap, k0, hA⟩
    · obtain ⟨a, cap, rfl⟩ := hB.form; exact ⟨a, _, rfl, cap, k1, hB⟩
    · omega
  clear hA hB k0 k1
  go_enter Try.func57, Try.ntmps57
  go_wp2
  go_step3
  go_wp2
  go_step3
  go_wp2
  go_loop [3, 4, 11] (fun x s i => ∃ c : Nat, c ≤ 2 ∧ i = .int .i64 c ∧ s = .bool true ∧ x = .int .i64 (fl (ahead A B c)) ∧ Hid (Even (ahead A B c))) (fun _ _ i => 2 - (intOf i).toNat)
  case atStart => exact ⟨0, by omega, rfl, rfl, rfl, even_nil⟩
  case round =>
    obtain ⟨c, hc, rfl, rfl, rfl, hE⟩ := hrel
    by_cases hlt : c < 2
    · obtain ⟨a, n, hn, cap, kc, hM⟩ := hN.out c hlt
      obtain ⟨M, hMM⟩ : ∃ M, Hid (M = nth A B c) := ⟨_, rfl⟩
      obtain ⟨J, hJ⟩ : ∃ J, Hid (J = ahead A B c) := ⟨_, rfl⟩
      rw [← hMM.out] at hM hn
      rw [← hJ.out] at hE ⊢
      subst hn
      have hml := hM.len
      unfold maxLen at hml
      have hlt' : (c : Int) < 2 := by omega
      go_wp2
      go_loop [3, 4, 17] (fun x s i => ∃ k : Nat, k ≤ M.length ∧ i = .int .i64 k ∧ s = .bool true ∧ x = .int .i64 (fl (J ++ M.take k)) ∧ Hid (Even (J ++ M.take k))) (fun _ _ i => M.length - (intOf i).toNat)
      case atStart => exact ⟨0, by omega, rfl, rfl, by simp, by simpa using hE⟩
      case round =>
        obtain ⟨k, hk, rfl, rfl, rfl, hE2⟩ := hrel
        clear hE
        by_cases hkm : k < M.length
        · obtain ⟨b, off, xa, xc, rfl, hb, c1, r1⟩ := hM.at hkm
          have hkm' : (k : Int) < (M.length : Int) := by omega
          by_cases h0 : (J ++ M.take k).length = 0
          · have e1 : fl (J ++ M.take k) = -1 := if_pos h0
            have e2 : Hid (fl (J ++ M.take (k + 1)) = (((ro M k).length : Nat) : Int)) := by
              show _ = _
              rw [take_push hkm, ← List.append_assoc, fl_push, if_pos h0]
            have e3 : Hid (Even (J ++ M.take (k + 1))) := by
              show Even _
              rw [take_push hkm, ← List.append_assoc]
              exact hE2.out.push fun h => by omega
            rw [e1]
            clear e1 h0 hE2 hM r1
            go_wp2
            go_round
            case rel => exact ⟨k + 1, by omega, by go_num, rfl, by rw [e2.out], e3⟩
            case measure => simp [intOf]; omega
          · have e1 : fl (J ++ M.take k) = (((ro (J ++ M.take k) 0).length : Nat) : Int) := fl_pos (by omega)
            have hneg : ¬ (((ro (J ++ M.take k) 0).length : Nat) : Int) < 0 := by omega
            by_cases e : (ro M k).length = (ro (J ++ M.take k) 0).length
            · have e2 : Hid (fl (J ++ M.take (k + 1)) = (((ro (J ++ M.take k) 0).length : Nat) : Int)) := by
                show _ = _
                rw [take_push hkm, ← List.append_assoc, fl_push, if_neg h0, e1]
              have e3 : Hid (Even (J ++ M.take (k + 1))) := by
                show Even _
                rw [take_push hkm, ← List.append_assoc]
                exact hE2.out.push fun h => e
              rw [e1]
              generalize (ro (J ++ M.take k) 0).length = f0 at *
              have hb : (((ro M k).length : Int) != (f0 : Int)) = false := by simp [e]
              clear e1 h0 hE2 hM r1 e
              go_wp2
              go_round
              case rel => exact ⟨k + 1, by omega, by go_num, rfl, by rw [e2.out], e3⟩
              case measure => simp [intOf]; omega
            · have E : Hid (decide (Even (A ++ B)) = false) := by
                refine decide_eq_false fun h => ?_
                have := ahead_all hlt h
                rw [← hJ.out, ← hMM.out] at this
                exact not_even hkm (by omega) e this
              rw [e1]
              generalize (ro (J ++ M.take k) 0).length = f0 at *
              have hb : (((ro M k).length : Int) != (f0 : Int)) = true := by simp; omega
              clear e1 h0 hE2 hM r1 e
              go_wp2
              go_ret
              exact ⟨by rw [E.out]; rfl, rfl⟩
        · have hge : ¬ (k : Int) < (M.length : Int) := by omega
          have hkk : k = M.length := by omega
          have e2 : Hid (J ++ M.take k = ahead A B (c + 1)) := by
            show _ = _
            rw [hkk, List.take_length, hJ.out, hMM.out]; exact ahead_step hlt
          rw [e2.out] at hE2 ⊢
          clear hM hkk
          go_wp2
          go_round
          case rel => exact ⟨c + 1, by omega, by go_num, rfl, rfl, hE2⟩
          case measure => simp [intOf]; omega
    · have hge : ¬ (c : Int) < 2 := by omega
      have E : Hid (decide (Even (A ++ B)) = true) := by
        rw [show c = 2 by omega] at hE
        exact decide_eq_true hE.out
      clear hN hE
      go_wp2
      go_ret
      exact ⟨by rw [E.out]; rfl, rfl⟩

end Go.Proofs.Ytkjolopdpihigaa.Gf

/-
  'bytes.Equal' BY CONTRACT, AND 'slices.EqualFunc' OF IT.
-/

namespace Go.Proofs.Ytkjolopdpihigaa.Gf
set_option linter.unusedVariables false
set_option linter.unusedSimpArgs false
open Go.RowKit

theorem conv_str {w : World} {v : Value} {p : List UInt8} (h : Rd w v p) : Sem.run Try.prog (convert 34 9 v) w = .ok (.string ⟨p.toArray⟩) w := by
  rcases h with ⟨a, c, rfl, rfl, _⟩ | ⟨b, off, cap, hp0, rfl, h1, h2, h3, hpc⟩
  · rcases a with _ | a
    · kernel_rfl
    · kernel_rfl
  · rw [run_convert_bytes_arg (P := Try.prog) w 34 5 Try.underlying34 Try.underlying5 b off p.length cap (p.map fun x => ((x.toNat : Nat) : Int)) (by simp) (fun i hi => by rw [hpc i hi, co_lt hi]; simp [List.getD, hi]) 9 Try.underlying9]
    unfold strOfNums
    congr 4
    rw [List.map_map]
    conv => rhs; rw [← List.map_id p]
    apply List.map_congr_left
    intro b _
    simp

set_option maxRecDepth 100000 in
set_option maxHeartbeats 1000000 in
theorem beq_any {va vb : Value} {p q : List UInt8} {w : World} (hp : Rd w va p) (hq : Rd w vb q) : Calls Try.prog 37 #[va, vb] w fun e w' => e = .returned (.bool (sameB p q)) ∧ w' = w := by
  have h1 := conv_str hp
  have h2 := conv_str hq
  obtain ⟨a, c, rfl⟩ := hp.form
  obtain ⟨a', c', rfl⟩ := hq.form
  clear hp hq
  go_enter Try.func37, Try.ntmps37
  go_wp2
  go_ret
  have e : (p == q) = sameB p q := by unfold sameB; rw [Bool.eq_iff_iff]; simp
  exact ⟨congrArg (fun b => Ending.returned (.bool b)) e, rfl⟩

set_option maxRecDepth 100000 in
set_option maxHeartbeats 1000000 in
theorem eqf_any {va vb : Value} {A B : List (List UInt8)} {w : World} (hA : Rs w va A) (hB : Rs w vb B) : Calls Try.prog 36 #[va, vb, .func (.func 37) #[] #[]] w fun e w' => e = .returned (.bool (sameL A B)) ∧ w' = w := by
  obtain ⟨a, c, rfl⟩ := hA.form
  obtain ⟨a', c', rfl⟩ := hB.form
  have hl := hA.len
  unfold maxLen at hl
  by_cases hx : A.length = B.length
  · have hb : ((A.length : Int) != (B.length : Int)) = false := by simp [hx]
    have hx' : Hid (A.length = B.length) := hx
    clear hx
    go_enter Try.func36, Try.ntmps36
    go_wp2
    clear hb
    go_loopw [17] (fun i wr => ∃ k : Nat, k ≤ A.length ∧ i = .int .i64 k ∧ Hid (∀ j, j < k → ro A j = ro B j) ∧ wr = w) (fun i _ => A.length - (intOf i).toNat)
    case atStart => exact ⟨0, by omega, rfl, fun j hj => by omega, rfl⟩
    case round =>
      obtain ⟨k, hk, rfl, hs, rfl⟩ := hrel
      by_cases hlt : k < A.length
      · have hltB : k < B.length := by have := hx'.out; omega
        obtain ⟨b, off, xa, xc, rfl, hb, c1, r1⟩ := hA.at hlt
        obtain ⟨b', off', ya, yc, rfl, hb', c0, r0⟩ := hB.at hltB
        have hlt' : (k : Int) < (A.length : Int) := by omega
        have h0' : (k : Int) < (B.length : Int) := by omega
        by_cases e : ro A k = ro B k
        · have hn : sameB (ro A k) (ro B k) = true := sameB_of e
          have HS : Hid (∀ j, j < k + 1 → ro A j = ro B j) := fun j hj => by
            by_cases e2 : j = k
            · rw [e2]; exact e
            · exact hs.out j (by omega)
          clear e hs hA hB
          go_wp2_with fail
          refine (beq_any r1 r0).mono ?_
          rintro e w' ⟨rfl, rfl⟩
          go_wp2
          go_roundw
          case rel => exact ⟨k + 1, by omega, by go_num, HS, by first | rfl | trivial⟩
          case measure => simp [intOf]; omega
        · have hn : sameB (ro A k) (ro B k) = false := decide_eq_false e
          have E : Hid (sameL A B = false) := decide_eq_false fun h => e (by rw [h])
          clear e hs hA hB
          go_wp2_with fail
          refine (beq_any r1 r0).mono ?_
          rintro e w' ⟨rfl, rfl⟩
          go_wp2
          go_ret
          exact ⟨by rw [E.out]; rfl, rfl⟩
      · have E : Hid (sameL A B = true) := decide_eq_true (ro_ext hx'.out fun i hi => hs.out i (by omega))
        have hge : ¬ (k : Int) < (A.length : Int) := by omega
        clear hs hA hB
        go_wp2
        go_ret
        exact ⟨by rw [E.out]; rfl, rfl⟩
  · have hb : ((A.length : Int) != (B.length : Int)) = true := by simp; omega
    have E : Hid (sameL A B = false) := decide_eq_false fun h => hx (by rw [h])
    clear hA hB hx
    go_enter Try.func36, Try.ntmps36
    go_wp2
    go_ret
    exact ⟨by rw [E.out]; rfl, rfl⟩

end Go.Proofs.Ytkjolopdpihigaa.Gf

/-
  THE PROGRAM's 'checked' BY CONTRACT.
-/


namespace Go.Proofs.Ytkjolopdpihigaa.Gf
set_option linter.unusedVariables false
set_option linter.unusedSimpArgs false
open Go.RowKit

set_option maxRecDepth 100000 in
set_option maxHeartbeats 1000000 in
theorem chkd_bad {b : Nat} {k m many : Int} {v vo : Value} {w : World} (hF : FieldAt w b) (h : ¬ OkC k m) : Calls Try.prog 34 #[.pointer (some ⟨b, 0, none⟩), .int .i64 k, .int .i64 m, .int .i64 many, v, vo] w (MakesErr w 50) := by
  go_enter Try.func34, Try.ntmps34
  have A0 : Below w.heap.size w (w.alloc (.cells #[.int .i64 0, .int .i64 0, .slice none 0 0] 52)) := (Below.refl _ _).alloc (Nat.le_refl _) _
  go_wp2_with fail
  refine (cpar_bad (hF.below A0) h).mono ?_
  rintro e w2 ⟨vs, rfl, hR, b2⟩
  have X3 : Box w2 w.heap.size 0 0 (.slice none 0 0) := Below.box b2 (by simp <;> omega) (Box.new w 0 0 (.slice none 0 0) 52)
  have F3 : Free w2 w.heap.size := Below.free b2 (by simp <;> omega) (Free.new w #[.int .i64 0, .int .i64 0, .slice none 0 0] 52)
  have hs2 : w.heap.size < w2.heap.size := by have := b2.size; simp at this; omega
  have B2 : Below w.heap.size w w2 := Below.next A0 b2
  obtain ⟨va, vc, rfl⟩ := hR.form
  clear h hF A0 b2 hR
  have x30 := X3.c0
  have x31 := X3.c1
  have x32 := X3.c2
  have f30 := F3.f0
  have f31 := F3.f1
  have f32 := F3.f2
  go_wp2
  refine bodyPost_ret (v := .tuple #[.agg #[.int .i64 0, .int .i64 0, .slice none 0 0], .int .i64 50]) (by simp [results, Try.results34, go_sem, x30, x31, x32, f30, f31, f32, hs2]) rfl ⟨_, rfl, rd_none, by repeat (first | exact B2 | exact Below.refl _ _ | apply below_lit | refine Below.setCell ?_ (by first | omega | exact Nat.le_refl _) _)⟩

/-- the shards are as many as there should be, and of one length -/
def OkS (A B : List (List UInt8)) (many : Int) : Prop := (A.length : Int) = many ∧ Even (A ++ B)

set_option maxRecDepth 100000 in
set_option maxHeartbeats 1000000 in
theorem chkd_shard {b : Nat} {k m : Nat} {many : Int} {v vo : Value} {A B : List (List UInt8)} {w : World} (hF : FieldAt w b) (h1 : 1 ≤ k) (h2 : k + m ≤ 256) (hA : Rs w v A) (hB : Rs w vo B) (h : ¬ OkS A B many) {x y : Int} (hx : x = (k : Int)) (hy : y = (m : Int)) :
    Calls Try.prog 34 #[.pointer (some ⟨b, 0, none⟩), .int .i64 x, .int .i64 y, .int .i64 many, v, vo] w (MakesErr w 60) := by
  subst hx hy
  obtain ⟨a1, c1, rfl⟩ := hA.form
  obtain ⟨a2, c2, rfl⟩ := hB.form
  go_enter Try.func34, Try.ntmps34
  have A0 : Below w.heap.size w (w.alloc (.cells #[.int .i64 0, .int .i64 0, .slice none 0 0] 52)) := (Below.refl _ _).alloc (Nat.le_refl _) _
  go_wp2_with fail
  refine (cpar_ok k m (hF.below A0) h1 h2 rfl rfl).mono ?_
  rintro e w2 ⟨vs, rfl, hR, b2⟩
  have X3 : Box w2 w.heap.size 0 0 (.slice none 0 0) := Below.box b2 (by simp <;> omega) (Box.new w 0 0 (.slice none 0 0) 52)
  have F3 : Free w2 w.heap.size := Below.free b2 (by simp <;> omega) (Free.new w #[.int .i64 0, .int .i64 0, .slice none 0 0] 52)
  have hs2 : w.heap.size < w2.heap.size := by have := b2.size; simp at this; omega
  have B2 : Below w.heap.size w w2 := Below.next A0 b2
  have hA2 := hA.below B2
  have hB2 := hB.below B2
  obtain ⟨va, vc, rfl⟩ := hR.form
  clear hF A0 b2 hR hA hB
  have x30 := X3.c0
  have x31 := X3.c1
  have x32 := X3.c2
  have f30 := F3.f0
  have f31 := F3.f1
  have f32 := F3.f2
  by_cases hm : (A.length : Int) = many
  · have hE : Hid (decide (Even (A ++ B)) = false) := decide_eq_false fun he => h ⟨hm, he⟩
    have hb : ((A.length : Int) != many) = false := by simp [hm]
    have hm' : Hid _ := hm
    clear h hm
    go_wp2_with fail
    refine (one_any (A := A) (B := B) (hA2.below (by repeat (first | exact Below.refl _ _ | apply below_lit))) (hB2.below (by repeat (first | exact Below.refl _ _ | apply below_lit))) (by simp) (by simp)).mono ?_
    rintro e w3 ⟨rfl, rfl⟩
    rw [hE.out]
    clear hA2 hB2
    go_wp2
    refine bodyPost_ret (v := .tuple #[.agg #[.int .i64 0, .int .i64 0, .slice none 0 0], .int .i64 60]) (by simp [results, Try.results34, go_sem, x30, x31, x32, f30, f31, f32, hs2]) rfl ⟨_, rfl, rd_none, by repeat (first | exact B2 | exact Below.refl _ _ | apply below_lit | refine Below.setCell ?_ (by first | omega | exact Nat.le_refl _) _)⟩
  · have hb : ((A.length : Int) != many) = true := by simp [hm]
    clear h hm hA2 hB2
    go_wp2
    refine bodyPost_ret (v := .tuple #[.agg #[.int .i64 0, .int .i64 0, .slice none 0 0], .int .i64 60]) (by simp [results, Try.results34, go_sem, x30, x31, x32, f30, f31, f32, hs2]) rfl ⟨_, rfl, rd_none, by repeat (first | exact B2 | exact Below.refl _ _ | apply below_lit | refine Below.setCell ?_ (by first | omega | exact Nat.le_refl _) _)⟩

set_option maxRecDepth 100000 in
set_option maxHeartbeats 1000000 in
theorem chkd_ok {b : Nat} {k m : Nat} {many : Int} {v vo : Value} {A B : List (List UInt8)} {w : World} (hF : FieldAt w b) (h1 : 1 ≤ k) (h2 : k + m ≤ 256) (hA : Rs w v A) (hB : Rs w vo B) (h : OkS A B many) {x y : Int} (hx : x = (k : Int)) (hy : y = (m : Int)) :
    Calls Try.prog 34 #[.pointer (some ⟨b, 0, none⟩), .int .i64 x, .int .i64 y, .int .i64 many, v, vo] w (MakesM w m k (parF k)) := by
  subst hx hy
  obtain ⟨a1, c1, rfl⟩ := hA.form
  obtain ⟨a2, c2, rfl⟩ := hB.form
  go_enter Try.func34, Try.ntmps34
  have A0 : Below w.heap.size w (w.alloc (.cells #[.int .i64 0, .int .i64 0, .slice none 0 0] 52)) := (Below.refl _ _).alloc (Nat.le_refl _) _
  go_wp2_with fail
  refine (cpar_at k m (hF.below A0) h1 h2 rfl rfl).mono ?_
  rintro e w2 ⟨g, M, rfl, hg, hR, b2⟩
  simp at hg
  have X3 : Box w2 w.heap.size 0 0 (.slice none 0 0) := Below.box b2 (by simp <;> omega) (Box.new w 0 0 (.slice none 0 0) 52)
  have F3 : Free w2 w.heap.size := Below.free b2 (by simp <;> omega) (Free.new w #[.int .i64 0, .int .i64 0, .slice none 0 0] 52)
  have hs2 : w.heap.size < w2.heap.size := by have := b2.size; simp at this; omega
  have B2 : Below w.heap.size w w2 := Below.next A0 b2
  have hA2 := hA.below B2
  have hB2 := hB.below B2
  clear hF A0 b2 hA hB
  have x30 := X3.c0
  have x31 := X3.c1
  have x32 := X3.c2
  have f30 := F3.f0
  have f31 := F3.f1
  have f32 := F3.f2
  have hE : Hid (decide (Even (A ++ B)) = true) := decide_eq_true h.2
  have hb : ((A.length : Int) != many) = false := by simp [h.1]
  clear h
  go_wp2_with fail
  refine (one_any (A := A) (B := B) (hA2.below (by repeat (first | exact Below.refl _ _ | apply below_lit))) (hB2.below (by repeat (first | exact Below.refl _ _ | apply below_lit))) (by simp) (by simp)).mono ?_
  rintro e w3 ⟨rfl, rfl⟩
  rw [hE.out]
  clear hA2 hB2
  go_wp2
  have O1 : Only w.heap.size w2 (((w2.setCell ⟨w.heap.size, 0, none⟩ (.int .i64 (m : Int))).setCell ⟨w.heap.size, 1, none⟩ (.int .i64 (k : Int))).setCell ⟨w.heap.size, 2, none⟩ (.slice (some ⟨g, 0, none⟩) M M)) :=
    (((Only.refl _ _).setCell 0 _).setCell 1 _).setCell 2 _
  have R2 := hR.only (apart_block (g := w.heap.size) (by omega)) O1
  have B3 := B2.trans (O1.below (Nat.le_refl _))
  have s3 := O1.size
  refine bodyPost_ret (v := .tuple #[.agg #[.int .i64 (m : Int), .int .i64 (k : Int), .slice (some ⟨g, 0, none⟩) M M], .int .i64 0]) (by simp [results, Try.results34, go_sem, x30, x31, x32, f30, f31, f32, hs2]) rfl ⟨_, rfl, R2.below (by repeat (first | exact Below.refl _ _ | apply below_lit)), by repeat (first | exact B3 | apply below_lit)⟩

end Go.Proofs.Ytkjolopdpihigaa.Gf

/-
  THE PROGRAM's 'Encode' AND 'Fits' BY CONTRACT.
-/


namespace Go.Proofs.Ytkjolopdpihigaa.Gf
set_option linter.unusedVariables false
set_option linter.unusedSimpArgs false
open Go.RowKit

set_option maxRecDepth 100000 in
set_option maxHeartbeats 1000000 in
theorem enc_err {b : Nat} {k m X : Int} {v : Value} {w : World} (hX : X ≠ 0) (hC : Calls Try.prog 34 #[.pointer (some ⟨b, 0, none⟩), .int .i64 k, .int .i64 m, .int .i64 k, v, .slice none 0 0] w (MakesErr w X)) :
    Calls Try.prog 15 #[.pointer (some ⟨b, 0, none⟩), .int .i64 k, .int .i64 m, v] w (MakesRs w X []) := by
  have hb : (X != 0) = true := by simp [hX]
  clear hX
  go_enter Try.func15, Try.ntmps15
  go_wp2_with fail
  refine hC.mono ?_
  rintro e w2 ⟨vs, rfl, hR, b2⟩
  obtain ⟨va, vc, rfl⟩ := hR.form
  clear hC hR
  go_wp2
  exact bodyPost_ret (v := .tuple #[.slice none 0 0, .int .i64 X]) (by simp [results, Try.results15, go_sem]) rfl ⟨_, rfl, rs_none, below_lit b2 _⟩

set_option maxRecDepth 100000 in
set_option maxHeartbeats 1000000 in
theorem enc_ok {b : Nat} {k m : Nat} {v : Value} {L : List (List UInt8)} {w : World} (hF : FieldAt w b) (h1 : 1 ≤ k) (h2 : k + m ≤ 256) (h : Rs w v L) (hL : L.length = k) (hE : Even L) (hS : Small L) {x y : Int} (hx : x = (k : Int)) (hy : y = (m : Int)) :
    Calls Try.prog 15 #[.pointer (some ⟨b, 0, none⟩), .int .i64 x, .int .i64 y, v] w (MakesRs w 0 (encL m k (parF k) L)) := by
  subst hx hy
  go_enter Try.func15, Try.ntmps15
  go_wp2_with fail
  refine (chkd_ok hF h1 h2 h rs_none (B := []) ⟨by rw [hL], by rw [List.append_nil]; exact hE⟩ rfl rfl).mono ?_
  rintro e w2 ⟨vs, rfl, hR, b2⟩
  have A2 : Below w2.heap.size w2 (w2.alloc (.cells #[.int .i64 (m : Int), .int .i64 (k : Int), vs] 52)) := (Below.refl _ _).alloc (Nat.le_refl _) _
  have B2 : Below w.heap.size w (w2.alloc (.cells #[.int .i64 (m : Int), .int .i64 (k : Int), vs] 52)) := below_lit b2 _
  have HD := encd_any m k (parF k) (hF.below B2) (hR.below A2) h1 h2 (h.below B2) hL hE hS rfl rfl
  obtain ⟨va, vc, rfl⟩ := hR.form
  obtain ⟨da, dc, rfl⟩ := h.form
  clear hF h hR hE hS b2 A2 hL
  go_wp2_with fail
  refine HD.mono ?_
  rintro e w3 ⟨v', rfl, hR3, b3⟩
  have HB : Hid _ := Below.next B2 b3
  clear HD b3 B2
  obtain ⟨xa, xc, rfl⟩ := hR3.form
  go_wp2
  exact bodyPost_ret (v := .tuple #[.slice xa (encL m k (parF k) L).length xc, .int .i64 0]) (by simp [results, Try.results15, go_sem]) rfl ⟨_, rfl, hR3, HB.out⟩

theorem enc_any {b : Nat} {k m : Int} {v : Value} {L : List (List UInt8)} {w : World} (hF : FieldAt w b) (h : Rs w v L) (hS : Small L) :
    Calls Try.prog 15 #[.pointer (some ⟨b, 0, none⟩), .int .i64 k, .int .i64 m, v] w (MakesRs w (encX k m L) (encR k m L)) := by
  rcases enc_cases k m L with c | ⟨c, d⟩ | ⟨c, d1, d2⟩
  · rw [(encX_bad c).1, (encX_bad c).2]
    exact enc_err (by decide) (chkd_bad hF c)
  · rw [(encX_shard c d).1, (encX_shard c d).2]
    obtain ⟨k, m, rfl, rfl, h1, h2⟩ := c.nat
    exact enc_err (by decide) (chkd_shard hF h1 h2 h rs_none (fun e => d ⟨e.1, by have := e.2; rwa [List.append_nil] at this⟩) rfl rfl)
  · obtain ⟨k, m, rfl, rfl, h1, h2⟩ := c.nat
    rw [(encX_ok c d1 d2).1, (encX_ok c d1 d2).2]
    exact enc_ok hF h1 h2 h (by omega) d2 hS rfl rfl

/-- What 'Fits' leaves. -/
def MakesB (w : World) (t : Bool) (x : Int) (e : Ending) (w' : World) : Prop := e = .returned (.tuple #[.bool t, .int .i64 x]) ∧ Below w.heap.size w w'

set_option maxRecDepth 100000 in
set_option maxHeartbeats 1000000 in
theorem fits_err {b : Nat} {k m s X : Int} {v : Value} {w : World} (hX : X ≠ 0) (hs : IntKind.i64.wrap (k + m) = s) (hC : Calls Try.prog 34 #[.pointer (some ⟨b, 0, none⟩), .int .i64 k, .int .i64 m, .int .i64 s, v, .slice none 0 0] w (MakesErr w X)) :
    Calls Try.prog 18 #[.pointer (some ⟨b, 0, none⟩), .int .i64 k, .int .i64 m, v] w (MakesB w false X) := by
  have hb : (X != 0) = true := by simp [hX]
  clear hX
  go_enter Try.func18, Try.ntmps18
  go_wp2_with fail
  refine hC.mono ?_
  rintro e w2 ⟨vs, rfl, hR, b2⟩
  obtain ⟨va, vc, rfl⟩ := hR.form
  clear hC hR
  go_wp2
  exact bodyPost_ret (v := .tuple #[.bool false, .int .i64 X]) (by simp [results, Try.results18, go_sem]) rfl ⟨rfl, below_lit b2 _⟩

set_option maxRecDepth 100000 in
set_option maxHeartbeats 2000000 in
theorem fits_ok {b : Nat} {k m : Nat} {v : Value} {L : List (List UInt8)} {w : World} (hF : FieldAt w b) (h1 : 1 ≤ k) (h2 : k + m ≤ 256) (h : Rs w v L) (hL : L.length = k + m) (hE : Even L) (hS : Small L) {x y : Int} (hx : x = (k : Int)) (hy : y = (m : Int)) :
    Calls Try.prog 18 #[.pointer (some ⟨b, 0, none⟩), .int .i64 x, .int .i64 y, v] w (MakesB w (sameL (encL m k (parF k) (L.take k)) L) 0) := by
  subst hx hy
  have hs : IntKind.i64.wrap ((k : Int) + (m : Int)) = (k : Int) + (m : Int) := by rw [IntKind.wrap_i64]; omega
  obtain ⟨lb, lo, lc, rfl, hlb, hlc, hlm⟩ := h.somewhere (by omega)
  have hkc : (k : Int) ≤ (lc : Int) := by omega
  have hkc' : k ≤ lc := by omega
  have hwk : IntKind.i64.wrap (k : Int) = (k : Int) := by rw [IntKind.wrap_i64]; omega
  have hL' : Hid _ := hL
  clear hL
  go_enter Try.func18, Try.ntmps18
  go_wp2_with fail
  refine (chkd_ok hF h1 h2 h rs_none (B := []) ⟨by rw [hL'.out]; omega, by rw [List.append_nil]; exact hE⟩ rfl rfl).mono ?_
  rintro e w2 ⟨vs, rfl, hR, b2⟩
  have A2 : Below w2.heap.size w2 (w2.alloc (.cells #[.int .i64 (m : Int), .int .i64 (k : Int), vs] 52)) := (Below.refl _ _).alloc (Nat.le_refl _) _
  have B2 : Below w.heap.size w (w2.alloc (.cells #[.int .i64 (m : Int), .int .i64 (k : Int), vs] 52)) := below_lit b2 _
  have h0 := h.below B2
  have ht := h0.first (k := k) (by rw [hL'.out]; omega)
  have hF2 := hF.below B2
  have hR2 := hR.below A2
  obtain ⟨va, vc, rfl⟩ := hR.form
  obtain ⟨N, hN⟩ : ∃ N, Hid (N = (flat m k (parF k)).length) := ⟨_, rfl⟩
  rw [← hN.out] at hR2 B2 h0 ht hF2 ⊢
  have X2 := Box.new w2 (m : Int) (k : Int) (.slice va N vc) 52
  have hl2 : w2.heap.size < (w2.alloc (.cells #[.int .i64 (m : Int), .int .i64 (k : Int), .slice va N vc] 52)).heap.size := by simp
  have hTl : (L.take k).length = k := by rw [List.length_take, hL'.out]; omega
  have hTe := even_take hE k
  have hTs := small_take hS k
  obtain ⟨E, hE'⟩ : ∃ E, Hid (E = encL m k (parF k) (L.take k)) := ⟨_, rfl⟩
  rw [← hE'.out]
  clear A2
  go_wp2
  generalize w2.alloc (.cells #[.int .i64 (m : Int), .int .i64 (k : Int), .slice va N vc] 52) = w3 at *
  have hcall1 : ∀ W, Below w3.heap.size w3 W → Calls Try.prog 35 #[.pointer (some ⟨b, 0, none⟩), .agg #[.int .i64 (m : Int), .int .i64 (k : Int), .slice va N vc], .slice (some ⟨lb, lo, none⟩) k lc] W (fun e w' => ∃ ra rc, e = .returned (.slice ra E.length rc) ∧ Rs w' (.slice ra E.length rc) E ∧ Below w3.heap.size w3 w') := fun W hW =>
    (encd_any m k (parF k) (hF2.below hW) (hR2.below hW) h1 h2 (ht.below hW) hTl hTe hTs rfl rfl).mono fun e w' ⟨v', he, hr, hb⟩ => by
      rw [← hE'.out] at hr
      obtain ⟨ra, rc, rfl⟩ := hr.form
      exact ⟨ra, rc, he, hr, Below.next hW hb⟩
  have hcall2 : ∀ W ra rc, Rs W (.slice ra E.length rc) E → Below w3.heap.size w3 W → Calls Try.prog 36 #[.slice ra E.length rc, .slice (some ⟨lb, lo, none⟩) L.length lc, .func (.func 37) #[] #[]] W (fun e w' => e = .returned (.bool (sameL E L)) ∧ Below w3.heap.size w3 w') := fun W ra rc hr hW =>
    (eqf_any hr (h0.below hW)).mono fun e w' ⟨he, hw⟩ => ⟨he, by rw [hw]; exact hW⟩
  clear hF h hR b2 hF2 hR2 ht h0 hTl hTe hTs hE hS
  have Q1 := X2
  have P1 := X2
  clear X2
  go_region_held3 (fun wx => wx.cell? ⟨w2.heap.size, 0, none⟩ = some (.int .i64 (m : Int)) ∧ wx.cell? ⟨w2.heap.size, 1, none⟩ = some (.int .i64 (k : Int)) ∧ wx.cell? ⟨w2.heap.size, 2, none⟩ = some (.slice va N vc)) (first | exact ⟨P1.c0, P1.c1, P1.c2⟩ | exact ⟨P1.drew.c0, P1.drew.c1, P1.drew.c2⟩) (first
    | (go_at_call 35; go_loud (refine (hcall1 _ (by first | assumption | exact (Below.refl _ _).drew)).mono ?_); rintro e v1 ⟨ra, rc, rfl, hR4, bv1⟩; replace P1 := Q1.below hl2 bv1)
    | (go_at_call 36; go_loud (refine (hcall2 _ _ _ hR4 (by first | assumption | exact (Below.refl _ _).drew)).mono ?_); rintro e v2 ⟨rfl, bv2⟩; replace P1 := Q1.below hl2 bv2))
  have HB : Hid (Below w.heap.size w v2) := Below.next B2 bv2
  clear hcall1 hcall2 Q1 P1 bv1 bv2 hR4 B2
  go_wp2
  exact bodyPost_ret (v := .tuple #[.bool (sameL E L), .int .i64 0]) (by simp [results, Try.results18, go_sem]) rfl ⟨by rw [← hE'.out], HB.out⟩

theorem fits_any {b : Nat} {k m : Int} {v : Value} {L : List (List UInt8)} {w : World} (hF : FieldAt w b) (h : Rs w v L) (hS : Small L) :
    Calls Try.prog 18 #[.pointer (some ⟨b, 0, none⟩), .int .i64 k, .int .i64 m, v] w (MakesB w (fitB k m L) (fitX k m L)) := by
  rcases fit_cases k m L with c | ⟨c, d⟩ | ⟨c, d1, d2⟩
  · rw [(fitX_bad c).1, (fitX_bad c).2]
    exact fits_err (by decide) rfl (chkd_bad hF c)
  · rw [(fitX_shard c d).1, (fitX_shard c d).2]
    obtain ⟨k, m, rfl, rfl, h1, h2⟩ := c.nat
    exact fits_err (by decide) (by rw [IntKind.wrap_i64]; omega) (chkd_shard hF h1 h2 h rs_none (fun e => d ⟨e.1, by have := e.2; rwa [List.append_nil] at this⟩) rfl rfl)
  · obtain ⟨k, m, rfl, rfl, h1, h2⟩ := c.nat
    rw [(fitX_ok c d1 d2).1, (fitX_ok c d1 d2).2]
    exact fits_ok hF h1 h2 h (by omega) d2 hS rfl rfl

end Go.Proofs.Ytkjolopdpihigaa.Gf

/-
  THE PROGRAM's 'Decode' (package erase) BY CONTRACT.
-/



namespace Go.Proofs.Ytkjolopdpihigaa.Gf
set_option linter.unusedVariables false
set_option linter.unusedSimpArgs false
open Go.RowKit

/-- the first r data shards -/
def decP (k : Nat) (V : Mx) (p : Nat → Nat) (L : List (List UInt8)) (r : Nat) : List (List UInt8) := mkL k (fun j => if j < r then dsh k V p L j else [])
theorem decP_zero (k : Nat) (V : Mx) (p : Nat → Nat) (L : List (List UInt8)) : decP k V p L 0 = mkL k (fun _ => []) := mkL_congr fun i hi => if_neg (by omega)
theorem decP_all (k : Nat) (V : Mx) (p : Nat → Nat) (L : List (List UInt8)) : decP k V p L k = decD k V p L := mkL_congr fun i hi => if_pos hi
theorem decP_length (k : Nat) (V : Mx) (p : Nat → Nat) (L : List (List UInt8)) (r : Nat) : (decP k V p L r).length = k := mkL_length _ _
theorem decP_step {k : Nat} {V : Mx} {p : Nat → Nat} {L : List (List UInt8)} {r : Nat} (h : r < k) : (decP k V p L r).set r (dsh k V p L r) = decP k V p L (r + 1) := by
  refine ro_ext (by rw [List.length_set, decP_length, decP_length]) fun i hi => ?_
  rw [List.length_set, decP_length] at hi
  unfold decP
  rw [ro_set (by rw [mkL_length]; exact h), ro_mkL hi, ro_mkL hi]
  by_cases e : i = r
  · subst e; rw [if_pos rfl, if_pos (by omega)]
  · rw [if_neg e]
    by_cases h2 : i < r
    · rw [if_pos h2, if_pos (by omega)]
    · rw [if_neg h2, if_neg (by omega)]

set_option maxRecDepth 100000 in
set_option maxHeartbeats 1000000 in
theorem edec_bad {b : Nat} {k m : Int} {va vl : Value} {w : World} (hF : FieldAt w b) (h : ¬ OkC k m) : Calls Try.prog 12 #[.pointer (some ⟨b, 0, none⟩), .int .i64 k, .int .i64 m, va, vl] w (MakesRs w 50 []) := by
  go_enter Try.func12, Try.ntmps12
  go_wp2_with fail
  refine (cgen_bad hF h).mono ?_
  rintro e w2 ⟨vs, rfl, hR, b2⟩
  obtain ⟨sa, sc, rfl⟩ := hR.form
  clear h hF hR
  go_wp2
  exact bodyPost_ret (v := .tuple #[.slice none 0 0, .int .i64 50]) (by simp [results, Try.results12, go_sem]) rfl ⟨_, rfl, rs_none, below_lit b2 _⟩

set_option maxRecDepth 100000 in
set_option maxHeartbeats 2000000 in
theorem edec_shard {b : Nat} {k m : Nat} {va vl : Value} {h : List Bool} {L : List (List UInt8)} {w : World} (hF : FieldAt w b) (h1 : 1 ≤ k) (h2 : k + m ≤ 256) (hH : RdB w va h) (hL : Rs w vl L) (hno : ¬ OkH k m h L) {x y : Int} (hx : x = (k : Int)) (hy : y = (m : Int)) :
    Calls Try.prog 12 #[.pointer (some ⟨b, 0, none⟩), .int .i64 x, .int .i64 y, va, vl] w (MakesRs w 60 []) := by
  subst hx hy
  obtain ⟨a1, c1, rfl⟩ := hH.form
  obtain ⟨a2, c2, rfl⟩ := hL.form
  obtain ⟨s, hs⟩ : ∃ s, Hid (s = k + m) := ⟨_, rfl⟩
  have g1 : (k : Int) + (m : Int) = (s : Int) := by have := hs.out; omega
  have gw : IntKind.i64.wrap (s : Int) = (s : Int) := by have := hs.out; rw [IntKind.wrap_i64]; omega
  have hno' : Hid (¬ (h.length = s ∧ L.length = s ∧ EvenH h L)) := fun ⟨p1, p2, p3⟩ => hno ⟨by rw [p1]; omega, by rw [p2]; omega, p3⟩
  clear hno
  go_enter Try.func12, Try.ntmps12
  go_wp2_with fail
  refine (cgen_ok k m hF h1 h2 rfl rfl).mono ?_
  rintro e w2 ⟨vs, rfl, hR, b2⟩
  obtain ⟨sa, sc, rfl⟩ := hR.form
  generalize (flat (k + m) k (genF k)).length = N at *
  rw [show ((k + m : Nat) : Int) = (s : Int) by rw [hs.out]]
  have B2 : Below w.heap.size w (w2.alloc (.cells #[.int .i64 (s : Int), .int .i64 (k : Int), .slice sa N sc] 52)) := below_lit b2 _
  by_cases p1 : h.length = s
  · have q1 : ((h.length : Int) != (s : Int)) = false := by simp [p1]
    have p1' : Hid _ := p1
    clear p1
    by_cases p2 : L.length = s
    · have q2 : ((L.length : Int) != (s : Int)) = false := by simp [p2]
      have E : evenB h L = false := evenB_no fun e => hno'.out ⟨p1'.out, p2, e⟩
      have p2' : Hid _ := p2
      have hH2 := hH.below B2
      have hL2 := hL.below B2
      clear p2 hF hR b2 hH hL
      go_wp2_with fail
      refine (eone_any hH2 hL2 (by rw [p1'.out, p2'.out])).mono ?_
      rintro e w3 ⟨rfl, rfl⟩
      rw [E]
      clear hH2 hL2 E
      go_wp2
      exact bodyPost_ret (v := .tuple #[.slice none 0 0, .int .i64 60]) (by simp [results, Try.results12, go_sem]) rfl ⟨_, rfl, rs_none, B2⟩
    · have q2 : ((L.length : Int) != (s : Int)) = true := by simp; omega
      clear p2 hF hR b2 hH hL
      go_wp2
      exact bodyPost_ret (v := .tuple #[.slice none 0 0, .int .i64 60]) (by simp [results, Try.results12, go_sem]) rfl ⟨_, rfl, rs_none, B2⟩
  · have q1 : ((h.length : Int) != (s : Int)) = true := by simp; omega
    clear p1 hF hR b2 hH hL
    go_wp2
    exact bodyPost_ret (v := .tuple #[.slice none 0 0, .int .i64 60]) (by simp [results, Try.results12, go_sem]) rfl ⟨_, rfl, rs_none, B2⟩

set_option maxRecDepth 100000 in
set_option maxHeartbeats 2000000 in
theorem edec_few {b : Nat} {k m : Nat} {va vl : Value} {h : List Bool} {L : List (List UInt8)} {w : World} (hF : FieldAt w b) (h1 : 1 ≤ k) (h2 : k + m ≤ 256) (hH : RdB w va h) (hL : Rs w vl L) (hok : OkH k m h L) (hf : (thr h h.length).length < k) {x y : Int} (hx : x = (k : Int)) (hy : y = (m : Int)) :
    Calls Try.prog 12 #[.pointer (some ⟨b, 0, none⟩), .int .i64 x, .int .i64 y, va, vl] w (MakesRs w 70 []) := by
  subst hx hy
  obtain ⟨a1, c1, rfl⟩ := hH.form
  obtain ⟨a2, c2, rfl⟩ := hL.form
  obtain ⟨s, hs⟩ : ∃ s, Hid (s = k + m) := ⟨_, rfl⟩
  have g1 : (k : Int) + (m : Int) = (s : Int) := by have := hs.out; omega
  have gw : IntKind.i64.wrap (s : Int) = (s : Int) := by have := hs.out; rw [IntKind.wrap_i64]; omega
  have p1 : Hid (h.length = s) := by show _ = _; have := hok.1; omega
  have p2 : Hid (L.length = s) := by show _ = _; have := hok.2.1; omega
  have E : evenB h L = true := evenB_yes hok.2.2
  have q0 : ((s : Int) != (s : Int)) = false := by simp
  have hl7 : Hid ((pls7 h k).length = (thr h h.length).length) := by show _ = _; rw [pls7_all (by omega)]
  clear hok
  rw [p1.out] at hH ⊢
  rw [p2.out] at hL ⊢
  go_enter Try.func12, Try.ntmps12
  go_wp2_with fail
  refine (cgen_ok k m hF h1 h2 rfl rfl).mono ?_
  rintro e w2 ⟨vs, rfl, hR, b2⟩
  obtain ⟨sa, sc, rfl⟩ := hR.form
  generalize (flat (k + m) k (genF k)).length = N at *
  rw [show ((k + m : Nat) : Int) = (s : Int) by rw [hs.out]]
  have B2 : Below w.heap.size w (w2.alloc (.cells #[.int .i64 (s : Int), .int .i64 (k : Int), .slice sa N sc] 52)) := below_lit b2 _
  have hH2 := hH.below B2
  have hL2 := hL.below B2
  clear hF hR b2 hH hL
  go_wp2_with fail
  refine (eone_any hH2 hL2 (by rw [p1.out, p2.out])).mono ?_
  rintro e w3 ⟨rfl, rfl⟩
  rw [E]
  clear E hL2
  go_wp2_with fail
  refine (efirst_any hH2 (by omega) rfl).mono ?_
  rintro e w4 ⟨v4, rfl, hO4, b4⟩
  have B4 := Below.next B2 b4
  obtain ⟨pa, pc, rfl⟩ := hO4.form
  rw [hl7.out]
  have hf' : (((thr h h.length).length : Nat) : Int) < (k : Int) := by omega
  clear hO4 hH2 B2 b4 hf
  go_wp2
  exact bodyPost_ret (v := .tuple #[.slice none 0 0, .int .i64 70]) (by simp [results, Try.results12, go_sem]) rfl ⟨_, rfl, rs_none, B4⟩

end Go.Proofs.Ytkjolopdpihigaa.Gf

/-
  THE PROGRAM's 'Decode' (package erase) BY CONTRACT: where shards enough are there.
-/


namespace Go.Proofs.Ytkjolopdpihigaa.Gf
set_option linter.unusedVariables false
set_option linter.unusedSimpArgs false
open Go.RowKit

theorem dsh_of {k j n : Nat} {V : Mx} {h : List Bool} {L : List (List UInt8)} (hn : (ro L (pl7 h 0)).length = n) : upto (dwd V (fun i => (pls7 h k).getD i 0) L j k) n = dsh k V (pl7 h) L j := by
  unfold dsh
  rw [hn]
  refine upto_congr fun t _ => ?_
  unfold dwd
  exact S_congr fun i hi => by show mu (V j i) (co (ro L ((pls7 h k).getD i 0)) t) = _; rw [pls7_getD hi]

set_option maxRecDepth 100000 in
set_option maxHeartbeats 4000000 in
theorem edec_ok {b : Nat} {k m : Nat} {va vl : Value} {h : List Bool} {L : List (List UInt8)} {w : World} (hF : FieldAt w b) (h1 : 1 ≤ k) (h2 : k + m ≤ 256) (hH : RdB w va h) (hL : Rs w vl L) (hok : OkH k m h L) (hS : SmallH h L) (hf : k ≤ (thr h h.length).length) {x y : Int} (hx : x = (k : Int)) (hy : y = (m : Int)) :
    Calls Try.prog 12 #[.pointer (some ⟨b, 0, none⟩), .int .i64 x, .int .i64 y, va, vl] w fun e w' => IsInv k (rowsF k (pl7 h)) (invF k (pl7 h)) ∧ MakesRs w 0 (encL m k (parF k) (decD k (invF k (pl7 h)) (pl7 h) L)) e w' := by
  subst hx hy
  obtain ⟨i1, hj, hy0, hy1, hy2⟩ := info_parts info_shard
  obtain ⟨a1, c1, rfl⟩ := hH.form
  obtain ⟨a2, c2, rfl⟩ := hL.form
  obtain ⟨s, hs⟩ : ∃ s, Hid (s = k + m) := ⟨_, rfl⟩
  have g1 : (k : Int) + (m : Int) = (s : Int) := by have := hs.out; omega
  have gw : IntKind.i64.wrap (s : Int) = (s : Int) := by have := hs.out; rw [IntKind.wrap_i64]; omega
  have p1 : Hid (h.length = s) := by show _ = _; have := hok.1; omega
  have p2 : Hid (L.length = s) := by show _ = _; have := hok.2.1; omega
  have E : evenB h L = true := evenB_yes hok.2.2
  have q0 : ((s : Int) != (s : Int)) = false := by simp
  have hl7 : Hid ((pls7 h k).length = k) := pls7_length hf
  have hth : Hid (∀ i, i < k → pl7 h i < L.length ∧ hb h (pl7 h i) = true) := fun i hi => by
    have := pl7_in (h := h) (i := i) (by omega)
    have q1 := p1.out
    have q2 := p2.out
    exact ⟨by omega, this.2⟩
  obtain ⟨n, hn⟩ : ∃ n, Hid (n = (ro L (pl7 h 0)).length) := ⟨_, rfl⟩
  have hn3 : n ≤ 300 := by rw [hn.out]; exact hS.2 _ (hth.out 0 (by omega)).2
  have hlen : Hid (∀ i, i < k → (ro L ((pls7 h k).getD i 0)).length = n) := fun i hi => by rw [pls7_getD hi, hn.out]; exact hok.2.2 _ _ (hth.out i hi).2 (hth.out 0 (by omega)).2
  have hin : Hid (∀ i, i < k → (pls7 h k).getD i 0 < L.length) := fun i hi => by rw [pls7_getD hi]; exact (hth.out i hi).1
  have hf' : Hid _ := hf
  clear hok hS hf
  rw [p1.out] at hH ⊢
  rw [p2.out] at hL ⊢
  go_enter Try.func12, Try.ntmps12
  go_wp2_with fail
  refine (cgen_ok k m hF h1 h2 rfl rfl).mono ?_
  rintro e w2 ⟨vs, rfl, hR, b2⟩
  have HG := hR
  obtain ⟨sa, sc, rfl⟩ := hR.form
  obtain ⟨N, hN⟩ : ∃ N, Hid (N = (flat (k + m) k (genF k)).length) := ⟨_, rfl⟩
  rw [← hN.out] at HG ⊢
  rw [show ((k + m : Nat) : Int) = (s : Int) by rw [hs.out]]
  have A2 : Below w2.heap.size w2 (w2.alloc (.cells #[.int .i64 (s : Int), .int .i64 (k : Int), .slice sa N sc] 52)) := (Below.refl _ _).alloc (Nat.le_refl _) _
  have B2 : Below w.heap.size w (w2.alloc (.cells #[.int .i64 (s : Int), .int .i64 (k : Int), .slice sa N sc] 52)) := below_lit b2 _
  have X2 := Box.new w2 (s : Int) (k : Int) (.slice sa N sc) 52
  have l2 : w2.heap.size < (w2.alloc (.cells #[.int .i64 (s : Int), .int .i64 (k : Int), .slice sa N sc] 52)).heap.size := by simp
  have hH2 := hH.below B2
  have hL2 := hL.below B2
  have hF2 := hF.below B2
  replace HG := HG.below A2
  clear hF hR b2 hH hL A2
  go_wp2_with fail
  refine (eone_any hH2 hL2 (by rw [p1.out, p2.out])).mono ?_
  rintro e w3 ⟨rfl, rfl⟩
  rw [E]
  clear E
  go_wp2_with fail
  refine (efirst_any hH2 (by omega) rfl).mono ?_
  rintro e w4 ⟨v4, rfl, hO4, b4⟩
  generalize w2.alloc (.cells #[.int .i64 (s : Int), .int .i64 (k : Int), .slice sa N sc] 52) = w3 at *
  have B4 := Below.next B2 b4
  have hL4 := hL2.below b4
  have hF4 := hF2.below b4
  have HG4 := HG.below b4
  have X4 := X2.below l2 b4
  have l4 : w2.heap.size < w4.heap.size := Nat.lt_of_lt_of_le l2 b4.size
  have hP4 := hO4.rd (by rw [hl7.out]; omega)
  obtain ⟨pa, pc, rfl⟩ := hO4.form
  rw [hl7.out] at hP4 ⊢
  have hge : ¬ (k : Int) < (k : Int) := by omega
  have x40 := X4.c0
  have x41 := X4.c1
  have x42 := X4.c2
  clear hO4 hH2 hL2 hF2 B2 b4 HG X2 l2
  go_wp2_with fail
  refine (eund_ok (k := k) (m := m) (h := h) hF4 ⟨_, by rw [hs.out], HG4⟩ hP4 h1 h2 (by rw [p1.out, hs.out]) hf'.out).mono ?_
  rintro e w5 ⟨hinv, vi5, rfl, hV5, b5⟩
  have hinv' : Hid _ := hinv
  clear hinv x40 x41 x42 X4
  have B5 := Below.next B4 b5
  have hL5 := hL4.below b5
  have hF5 := hF4.below b5
  have hP5 := hP4.below b5
  obtain ⟨ia, ic, rfl⟩ := hV5.form
  obtain ⟨I, hI⟩ : ∃ I, Hid (I = (flat k k (invF k (pl7 h))).length) := ⟨_, rfl⟩
  rw [← hI.out] at hV5 ⊢
  have A5 : Below w5.heap.size w5 (w5.alloc (.cells #[.int .i64 (k : Int), .int .i64 (k : Int), .slice ia I ic] 52)) := (Below.refl _ _).alloc (Nat.le_refl _) _
  have B6 : Below w.heap.size w (w5.alloc (.cells #[.int .i64 (k : Int), .int .i64 (k : Int), .slice ia I ic] 52)) := below_lit B5 _
  have hL6 := hL5.below A5
  have hF6 := hF5.below A5
  have hP6 := hP5.below A5
  have hV6 := hV5.below A5
  clear hL4 hF4 hP4 HG4 B4 b5 hL5 hF5 hP5 hV5 B5 A5 l4
  go_wp2_with fail
  refine (emak_any _).mono ?_
  rintro e w7 ⟨fb, mb, pb, sb, rfl, hM7, b7⟩
  generalize w5.alloc (.cells #[.int .i64 (k : Int), .int .i64 (k : Int), .slice ia I ic] 52) = w6 at *
  have HB7 : Hid _ := Below.next B6 b7
  have HL7 : Hid _ := hL6.below b7
  have HF7 : Hid _ := hF6.below b7
  have HP7 : Hid _ := hP6.below b7
  have HV7 : Hid _ := hV6.below b7
  have HM7 : Hid _ := hM7
  clear hL6 hF6 hP6 hV6 B6 b7 hM7
  go_wp2_with (at_make; go_loud (refine wpList_make_full _ rfl (.tmp 71) (.tmp 71) 24 rfl w7.heap.size 34 i1 (.slice none 0 0) 1 Try.underlying24 hj hy0 hy1 _ _ _ _ k rfl rfl (by omega) (by omega) (by rw [hy2]; omega) (by unfold maxLen; omega) (Nat.le_refl _) ?_); intro w8 hown8 hgrow8)
  have O8 : Hid (Os w8 w7.heap.size 34 5 (.slice (some ⟨w7.heap.size, 0, none⟩) k k) (decP k (invF k (pl7 h)) (pl7 h) L 0)) := by
    show Os _ _ _ _ _ _
    rw [decP_zero]
    exact Os.blank hown8 (fun y hy => by rw [Nat.mul_one, show Value.cells (.slice none 0 0) = #[.slice none 0 0] from rfl, toList_madeCells_one] at hy; exact List.eq_of_mem_replicate hy)
  have B8 : Hid (Below w7.heap.size w7 w8) := (Below.refl _ _).grown hgrow8 (Nat.le_refl _) (fun q hq => by cases hq)
  clear hown8 hgrow8
  obtain ⟨G, hG⟩ : ∃ G, Hid (G = w7.heap.size) := ⟨_, rfl⟩
  obtain ⟨B, hB⟩ : ∃ B, Hid (B = w7.heap.size) := ⟨_, rfl⟩
  rw [← hG.out]
  have O8' : Hid (Os w8 B 34 5 (.slice (some ⟨G, 0, none⟩) k k) (decP k (invF k (pl7 h)) (pl7 h) L 0)) := by show Os _ _ _ _ _ _; rw [hG.out, hB.out]; exact O8.out
  have B8' : Hid (Below B w7 w8) := by show Below _ _ _; rw [hB.out]; exact B8.out
  clear O8 B8
  go_wp2
  go_loopw [75] (fun i wr => ∃ r : Nat, r ≤ k ∧ i = .int .i64 r ∧ Os wr B 34 5 (.slice (some ⟨G, 0, none⟩) k k) (decP k (invF k (pl7 h)) (pl7 h) L r) ∧ Below B w7 wr) (fun i _ => k - (intOf i).toNat)
  case atStart => exact ⟨0, by omega, rfl, O8'.out, B8'.out⟩
  case round =>
    obtain ⟨r, hr, rfl, hO, hBw⟩ := hrel
    clear O8' B8'
    have bw : Below w7.heap.size w7 wr := by rw [← hB.out]; exact hBw
    by_cases hlt : r < k
    · have hlt' : (r : Int) < (k : Int) := by omega
      have hO' : Hid _ := hO
      have hBw' : Hid _ := hBw
      clear hO hBw
      go_wp2_with fail
      refine (emak1_any (zs := pls7 h k) (L := L) (n := n) (HF7.out.below bw) (HM7.out.below bw) (Rd.below HV7.out bw) (RdI.below HP7.out bw) hl7.out (Rs.below HL7.out bw) hin.out hlen.out hn3 (by omega) hlt rfl).mono ?_
      rintro e w9 ⟨g, rfl, hg, hR9, b9⟩
      have hdl : r < (decP k (invF k (pl7 h)) (pl7 h) L r).length := by rw [decP_length]; exact hlt
      obtain ⟨y, cy, fy, hG9, hBG, hGr⟩ := Os.spot hO'.out b9 hdl
      have hgG : g ≠ G := by omega
      have hsz : B ≤ wr.heap.size := by have := hB.out; have := hBw'.out.size; omega
      have R10 := OwnP.rowF ((hR9.base hsz).other (a := ⟨G, r, none⟩) hgG (.slice (some ⟨g, 0, none⟩) n n))
      rw [dsh_of hn.out.symm] at R10
      have HO : Hid (Os (w9.setCell ⟨G, r, none⟩ (.slice (some ⟨g, 0, none⟩) n n)) B 34 5 (.slice (some ⟨G, 0, none⟩) k k) (decP k (invF k (pl7 h)) (pl7 h) L (r + 1))) := by
        show Os _ _ _ _ _ _
        rw [← decP_step hlt]
        exact Os.put hO'.out b9 hdl rfl hg (Only.refl _ _) R10
      have HB : Hid (Below B w7 (w9.setCell ⟨G, r, none⟩ (.slice (some ⟨g, 0, none⟩) n n))) := (hBw'.out.trans (b9.mono hsz)).setCell (p := ⟨G, r, none⟩) hBG _
      clear hR9 b9 R10 hO' hBw' hdl
      go_wp2
      go_roundw
      case rel => exact ⟨r + 1, by omega, by go_num, HO.out, HB.out⟩
      case measure => simp [intOf]; omega
    · have hge2 : ¬ (r : Int) < (k : Int) := by omega
      have er : r = k := by omega
      rw [er, decP_all] at hO
      have hRs := hO.rs
      have BB := Below.next HB7.out bw
      clear er hO hBw
      go_wp2_with fail
      refine (enc_ok (HF7.out.below bw) h1 h2 hRs (decD_length _ _ _ _) (decD_even h1) (decD_small (by omega) (by rw [← hn.out]; exact hn3)) rfl rfl).mono ?_
      rintro e w9 ⟨v9, rfl, hR9, b9⟩
      obtain ⟨oa, oc, rfl⟩ := hR9.form
      have HBn : Hid (Below w.heap.size w w9) := Below.next BB b9
      generalize (encL m k (parF k) (decD k (invF k (pl7 h)) (pl7 h) L)).length = oL at *
      clear hRs b9 BB bw
      go_wp2
      exact bodyPost_ret (v := .tuple #[.slice oa oL oc, .int .i64 0]) (by simp [results, Try.results12, go_sem]) rfl ⟨hinv'.out, _, rfl, hR9, HBn.out⟩

/-- whatever comes in -/
theorem edec_any {b : Nat} {k m : Int} {va vl : Value} {h : List Bool} {L : List (List UInt8)} {w : World} (hF : FieldAt w b) (hH : RdB w va h) (hL : Rs w vl L) (hS : SmallH h L) :
    Calls Try.prog 12 #[.pointer (some ⟨b, 0, none⟩), .int .i64 k, .int .i64 m, va, vl] w fun e w' => (decX k m h L = 0 → ∀ q : Nat, k = (q : Int) → IsInv q (rowsF q (pl7 h)) (invF q (pl7 h))) ∧ MakesRs w (decX k m h L) (decR k m h L) e w' := by
  rcases dec_cases k m h L with c | ⟨c, d⟩ | ⟨c, d, f⟩ | ⟨c, d, f⟩
  · rw [(decX_bad c).1, (decX_bad c).2]
    exact (edec_bad hF c).mono fun e w' r => ⟨fun q => absurd q (by decide), r⟩
  · rw [(decX_shard c d).1, (decX_shard c d).2]
    obtain ⟨k, m, rfl, rfl, h1, h2⟩ := c.nat
    exact (edec_shard hF h1 h2 hH hL d rfl rfl).mono fun e w' r => ⟨fun q => absurd q (by decide), r⟩
  · rw [(decX_few c d f).1, (decX_few c d f).2]
    obtain ⟨k, m, rfl, rfl, h1, h2⟩ := c.nat
    exact (edec_few hF h1 h2 hH hL d (by omega) rfl rfl).mono fun e w' r => ⟨fun q => absurd q (by decide), r⟩
  · obtain ⟨k, m, rfl, rfl, h1, h2⟩ := c.nat
    rw [(decX_ok c d (by omega)).1, (decX_ok c d (by omega)).2]
    exact (edec_ok hF h1 h2 hH hL d hS (by omega) rfl rfl).mono fun e w' r => ⟨fun _ q hq => by rw [show q = k by omega]; exact r.1, r.2⟩

end Go.Proofs.Ytkjolopdpihigaa.Gf

/-
  THE STATEMENTS' HEAD OF LAYER 7 BY CONTRACT: 'awake' answers true; 'count'.
-/

namespace Go.Proofs.Ytkjolopdpihigaa.Gf
set_option linter.unusedVariables false
set_option linter.unusedSimpArgs false
open Go.RowKit

theorem er_hb1 {i : Nat} (e : hb [true, false, true] i = true) : i = 0 ∨ i = 2 := by
  rcases i with _ | _ | _ | i
  · exact Or.inl rfl
  · cases e
  · exact Or.inr rfl
  · rw [hb_ge (by simp)] at e; cases e
theorem er_hb2 {i : Nat} (e : hb [true, false, false] i = true) : i = 0 := by
  rcases i with _ | _ | _ | i
  · rfl
  · cases e
  · cases e
  · rw [hb_ge (by simp)] at e; cases e
theorem er_ok1 : OkH ((2 : Nat) : Int) ((1 : Nat) : Int) [true, false, true] [[1], [], [123]] := ⟨rfl, rfl, fun i j hi hj => by
  rcases er_hb1 hi with rfl | rfl <;> rcases er_hb1 hj with rfl | rfl <;> rfl⟩
theorem er_ok2 : OkH ((2 : Nat) : Int) ((1 : Nat) : Int) [true, false, false] [[1], [], []] := ⟨rfl, rfl, fun i j hi hj => by
  rw [er_hb2 hi, er_hb2 hj]⟩
theorem er_aw1 : decX 2 1 [true, false, true] [[1], [], [123]] = 0 := (decX_ok (k := 2) (m := 1) (by decide) er_ok1 (by decide)).1
theorem er_aw2 (hV : IsInv 2 (rowsF 2 (pl7 [true, false, true])) (invF 2 (pl7 [true, false, true]))) : decR 2 1 [true, false, true] [[1], [], [123]] = [[1], [2], [123]] := by
  have e1 := (decX_ok (k := 2) (m := 1) (by decide) er_ok1 (by decide)).2
  have e2 : encL 1 2 (parF 2) [[1], [2]] = [[1], [2], [123]] := by decide +kernel
  rw [show ((2 : Nat) : Int) = 2 from rfl, show ((1 : Nat) : Int) = 1 from rfl] at e1
  rw [e1, dec_back (m := 1) (D := [[1], [2]]) (by decide) hV (fun i hi => ?_) rfl (fun i hi => ?_) (fun i hi => ?_), e2]
  · rcases i with _ | _ | i
    · decide
    · decide
    · omega
  · rcases i with _ | _ | i
    · rfl
    · rfl
    · simp at hi; omega
  · rw [e2]
    rcases i with _ | _ | i
    · rfl
    · rfl
    · omega
theorem er_aw3 : decX 2 1 [true, false, false] [[1], [], []] = 70 := (decX_few (k := 2) (m := 1) (by decide) er_ok2 (by decide)).1
theorem er_aw4 : decR 2 1 [true, false, false] [[1], [], []] = [] := (decX_few (k := 2) (m := 1) (by decide) er_ok2 (by decide)).2
theorem rs_lit3 {w : World} {x y z : Value} {e b : Nat} {p q r : List UInt8} (hb : b = w.heap.size) (h : Rd w x p) (h2 : Rd w y q) (h3 : Rd w z r) : Rs (w.alloc (.cells #[x, y, z] e)) (.slice (some ⟨b, 0, none⟩) 3 3) [p, q, r] :=
  rs_lit hb rfl (by decide) fun i hi => by
    rcases i with _ | _ | _ | i
    · exact ⟨x, rfl, h⟩
    · exact ⟨y, rfl, h2⟩
    · exact ⟨z, rfl, h3⟩
    · simp at hi; omega

set_option maxRecDepth 100000 in
set_option maxHeartbeats 4000000 in
theorem awake7_any (w : World) : Calls Try.prog 9 #[] w fun e w' => e = .returned (.bool true) ∧ Below w.heap.size w w' := by
  go_enter Try.func9, Try.ntmps9
  have B : Below w.heap.size w w := Below.refl _ _
  go_wp2_with fail
  refine (new_any _).mono ?_
  rintro e u1 ⟨rfl, F, hO⟩
  have b := hO.below
  clear hO
  have D : Below (World.heap w |>.size) w u1 := Below.next (by repeat (first | exact Below.refl _ _ | apply Below.draws | apply below_lit)) b
  replace B := Below.next B D
  clear b D
  go_wp2_with fail
  refine (edec_any (h := [true, false, true]) (L := [[1], [], [123]]) (F.below (by repeat (first | exact Below.refl _ _ | apply Below.draws | apply below_lit))) ((rdB_lit (w := u1) (cs := #[.bool true, .bool false, .bool true]) (e := 4) [true, false, true] rfl rfl rfl (by decide)).below (by repeat (first | exact Below.refl _ _ | apply Below.draws | apply below_lit))) (rs_lit3 (by simp) ((rd_lit2 (w := u1.alloc (.cells #[.bool true, .bool false, .bool true] 4)) (cs := #[.int .u8 1]) (e := 5) [1] (by simp) rfl rfl (by decide)).below (by repeat (first | exact Below.refl _ _ | apply Below.draws | apply below_lit))) rd_none (rd_lit2 [123] (by simp) rfl rfl (by decide))) (Small.h (small_mem (by decide) (by decide)) _)).mono ?_
  rintro e u2 ⟨hV, va, rfl, Ra, b⟩
  rw [er_aw1]
  rw [er_aw2 (hV er_aw1 2 rfl)] at Ra
  clear hV
  have D : Below (World.heap u1 |>.size) u1 u2 := Below.next (by repeat (first | exact Below.refl _ _ | apply Below.draws | apply below_lit)) b
  replace F := F.below D
  replace B := Below.next B D
  clear b D
  obtain ⟨ga, oa, ca, rfl, _⟩ := Ra.somewhere (by decide)
  go_wp2_with fail
  refine (edec_any (h := [true, false, false]) (L := [[1], [], []]) (F.below (by repeat (first | exact Below.refl _ _ | apply Below.draws | apply below_lit))) ((rdB_lit (w := u2) (cs := #[.bool true, .bool false, .bool false]) (e := 4) [true, false, false] rfl rfl rfl (by decide)).below (by repeat (first | exact Below.refl _ _ | apply Below.draws | apply below_lit))) (rs_lit3 (by simp) (rd_lit2 [1] (by simp) rfl rfl (by decide)) rd_none rd_none) (Small.h (small_mem (by decide) (by decide)) _)).mono ?_
  rintro e u3 ⟨_, vb, rfl, Rb, b⟩
  rw [er_aw3]
  rw [er_aw4] at Rb
  have D : Below (World.heap u2 |>.size) u2 u3 := Below.next (by repeat (first | exact Below.refl _ _ | apply Below.draws | apply below_lit)) b
  replace F := F.below D
  replace Ra := Ra.below D
  replace B := Below.next B D
  clear b D
  obtain ⟨gb, cb, rfl⟩ := Rb.form
  clear Rb
  obtain ⟨xa, xc, c1, r1⟩ := Ra.get (i := 1) (by decide)
  obtain ⟨xb, xo, rfl, _, d1⟩ := r1.byte (i := 0) (by decide)
  rw [Nat.add_zero] at d1
  have e1 : (ro [[1], [2], [123]] 1).length = 1 := rfl
  have e3 : (((co (ro [[1], [2], [123]] 1) 0).toNat : Nat) : Int) = 2 := by decide
  rw [e1] at c1
  rw [e3] at d1
  clear r1 e1 e3
  go_wp2
  go_ret
  exact ⟨rfl, Below.next B (by repeat (first | exact Below.refl _ _ | apply Below.draws | apply below_lit))⟩

set_option maxRecDepth 100000 in
set_option maxHeartbeats 1000000 in
theorem count_any {va : Value} {h : List Bool} {w : World} (hH : RdB w va h) : Calls Try.prog 17 #[va] w fun e w' => e = .returned (.int .i64 (((thr h h.length).length : Nat) : Int)) ∧ w' = w := by
  obtain ⟨a, c, rfl⟩ := hH.form
  have hl := hH.len
  unfold maxLen at hl
  go_enter Try.func17, Try.ntmps17
  go_wp2
  go_loop [3, 4] (fun x i => ∃ k : Nat, k ≤ h.length ∧ i = .int .i64 k ∧ x = .int .i64 (((thr h k).length : Nat) : Int)) (fun _ i => h.length - (intOf i).toNat)
  case atStart => exact ⟨0, by omega, rfl, rfl⟩
  case round =>
    obtain ⟨k, hk, rfl, rfl⟩ := hrel
    by_cases hlt : k < h.length
    · obtain ⟨b, off, rfl, _, c1⟩ := hH.at hlt
      have hlt' : (k : Int) < (h.length : Int) := by omega
      have hq := thr_len h k
      cases e : hb h k with
      | false =>
        rw [e] at c1
        have E : Hid (thr h (k + 1) = thr h k) := thr_no e
        clear hH e
        go_wp2
        go_round
        case rel => exact ⟨k + 1, by omega, by go_num, by rw [E.out]⟩
        case measure => simp [intOf]; omega
      | true =>
        rw [e] at c1
        have E : Hid ((thr h (k + 1)).length = (thr h k).length + 1) := by show _ = _; rw [thr_yes e, List.length_append]; rfl
        have gw : IntKind.i64.wrap ((((thr h k).length : Nat) : Int) + 1) = (((thr h k).length : Nat) : Int) + 1 := by rw [IntKind.wrap_i64]; omega
        clear hH e
        go_wp2
        go_round
        case rel => exact ⟨k + 1, by omega, by go_num, by rw [E.out]; go_num⟩
        case measure => simp [intOf]; omega
    · have e : k = h.length := by omega
      subst e
      have hge : ¬ (h.length : Int) < (h.length : Int) := by omega
      clear hH
      go_wp2
      go_ret
      exact ⟨rfl, rfl⟩

theorem count_b {va : Value} {h : List Bool} {w : World} (hH : RdB w va h) : Calls Try.prog 17 #[va] w fun e w' => e = .returned (.int .i64 (((thr h h.length).length : Nat) : Int)) ∧ Below w.heap.size w w' :=
  (count_any hH).mono fun e w' ⟨h1, h2⟩ => ⟨h1, by rw [h2]; exact Below.refl _ _⟩

end Go.Proofs.Ytkjolopdpihigaa.Gf

